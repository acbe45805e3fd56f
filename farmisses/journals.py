"""Journals: the texts of events, line by line, and what can be read of them when they were torn."""

from farmisses.caches import Cache
from farmisses.errors import FarError, InvalidEvent, InvalidText, LimitExceeded
from farmisses.events import is_event
from farmisses.printing import show
from farmisses.sessions import Session
from farmisses.sizes import is_integer
from farmisses.texts import parse_block
from farmisses.tokens import has_few_digits, is_short_number
from farmisses.trees import is_tree

_ROW = " {}[]+-*0123456789abcdefghijklmnopqrstuvwxyz"
_MODULUS = 999983


def event_text(event):
    """Return the text of an event."""
    if not is_event(event):
        raise InvalidEvent(event)
    text = _written(event)
    # A block may have more loops, digits or powers than can be read.
    if text is None or _read(text) != event:
        raise InvalidEvent(event)
    return text


def read_event(text):
    """Return the event with a text."""
    event = _read(text) if isinstance(text, str) else None
    if event is None or _written(event) != text:
        raise InvalidText(text)
    return event


def journal_text(events):
    """Return the journal of a list of events."""
    return "".join([_line(index, event_text(event)) for index, event in enumerate(events)])


def appended(text, event):
    """Return a text with one more line, that of an event."""
    if not isinstance(text, str):
        raise InvalidText(text)
    return text + _line(text.count("\n"), event_text(event))


def recovered(text):
    """Return the list of the events of the longest beginning of a text that is a journal."""
    if not isinstance(text, str):
        raise InvalidText(text)
    events = []
    lines = text.split("\n")
    # Behind the last newline stands no line that is whole.
    for line in lines[:-1]:
        event = _event_of_line(line, len(events))
        if event is None:
            return events
        events.append(event)
    return events


def recovered_session(program, cache, n, text):
    """Return the session in which the events that can be read are performed, up to the first that is refused."""
    events = recovered(text)
    session = Session(program, cache, n)
    for event in events:
        try:
            session.perform(event)
        except (FarError, LimitExceeded):
            return session
    return session


def _written(event):
    """Return the text of an event by its form, None if it has none; it may not be read back."""
    word = event[0]
    if word == "back":
        return word
    if word == "size":
        return _size_text(event[1])
    if word == "cache":
        return _cache_text(event)
    return _edit_text(event[1])


def _size_text(n):
    """Return the text of the event by which any value becomes the number, None if it has none."""
    if not is_integer(n) or n < 0 or not has_few_digits(n):
        return None
    return f"size {n}"


def _cache_text(event):
    """Return the text of an event with another cache, None if there is no such cache."""
    _, line, levels = event
    try:
        return Cache(line, levels).show()
    except FarError:
        return None


def _edit_text(block):
    """Return the text of the event by which any value becomes the block, None if it is none."""
    tree = ((), block)
    if not is_tree(tree):
        return None
    return "".join(["edit"] + [" " + line.lstrip(" ") for line in show(tree).splitlines()])


def _read(text):
    """Return the event that a text tells, None if it tells none; the text may have another form."""
    word, _, rest = text.partition(" ")
    if text == "back":
        return (text,)
    if word == "size" and is_short_number(rest):
        return (word, int(rest))
    try:
        if word == "edit":
            return (word, parse_block(rest))
        if word == "line":
            cache = Cache.read(text)
            return ("cache", cache.line, cache.levels)
    except FarError:
        return None
    return None


def _check(text):
    """Return the check of a text."""
    return sum([(at + 1) * (_ROW.find(character) + 1) for at, character in enumerate(text)]) % _MODULUS


def _line(index, text):
    """Return the line of the event with a text."""
    return f"{index} {len(text)} {_check(text)} {text}\n"


def _event_of_line(line, index):
    """Return the event of a line, given without its newline, None if it is no line with this index."""
    words = line.split(" ", 3)
    text = words[-1]
    if _line(index, text) != line + "\n":
        return None
    event = _read(text)
    if event is None or _written(event) != text:
        return None
    return event
