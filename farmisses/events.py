"""Events of sessions: their forms, and what they lead to."""

from farmisses.caches import Cache

_LENGTHS = {"edit": 2, "size": 2, "cache": 3, "back": 1}


def is_event(value):
    """Return whether any value is an event by its form: it begins with a word, and is as long as this tells."""
    if not isinstance(value, tuple) or value == () or not isinstance(value[0], str):
        return False
    return _LENGTHS.get(value[0], 0) == len(value)


def is_back(event):
    """Return whether an event takes back another one."""
    return event[0] == "back"


def changed(setting, event):
    """Return the setting (program, cache, n) to which an event leads that is no back.

    Whether the program fits the number is not looked at.
    """
    program, cache, n = setting
    if event[0] == "edit":
        return (program.replaced(event[1]), cache, n)
    if event[0] == "size":
        return (program, cache, event[1])
    return (program, Cache(event[1], event[2]), n)
