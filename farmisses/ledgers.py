"""Ledgers: what a session does with its events, with papers that show it."""

from farmisses.errors import FarError
from farmisses.events import changed, is_back, is_event
from farmisses.papers import counted, told_count
from farmisses.ranges import check_fits
from farmisses.sizes import is_integer


def ledger(session):
    """Return a ledger of a session."""
    setting = session.begun()
    first = _shown(setting)
    shown = first
    past = []
    rows = []
    for event in session.journal():
        if is_back(event):
            setting, shown = past.pop()
        else:
            past.append((setting, shown))
            setting = changed(setting, event)
            shown = _shown(setting)
        rows.append((event, *shown))
    return (first, tuple(rows))


def is_ledger(program, cache, n, value):
    """Return whether any value is a ledger of a session that begins with a program, a cache and a number."""
    check_fits(program, n)
    if not _is_tuple_of(value, 2) or not isinstance(value[1], tuple):
        return False
    first, rows = value
    setting = (program, cache, n)
    past = []
    if not _is_shown(setting, first):
        return False
    for row in rows:
        if not _is_tuple_of(row, 3):
            return False
        setting = _led_to(setting, past, row[0])
        if setting is None or not _is_shown(setting, row[1:]):
            return False
    return True


def _shown(setting):
    """Return the pair (counts, paper) of a program, a cache and a number."""
    program, cache, n = setting
    tally, entries = counted(program, cache, n)
    return (_counts(tally), entries)


def _counts(tally):
    """Return the sorted tuple of the pairs (key, number) of a tally."""
    return tuple(sorted(tally.items()))


def _is_shown(setting, value):
    """Return whether any value is a pair (counts, paper) whose paper holds and shows the counts."""
    if not _is_tuple_of(value, 2):
        return False
    counts, entries = value
    program, cache, n = setting
    try:
        tally = told_count(program, cache, n, entries)
    except FarError:
        return False
    return tally is not None and _is_just(counts, _counts(tally))


def _led_to(setting, past, event):
    """Return the setting to which any value leads as an event, None if it does not.

    past is the list of the settings before the events that have not been taken back; it is kept so.
    """
    if not is_event(event):
        return None
    if is_back(event):
        return past.pop() if past != [] else None
    try:
        led_to = changed(setting, event)
    except FarError:
        return None
    past.append(setting)
    return led_to


def _is_tuple_of(value, many):
    """Return whether any value is a tuple of so many values."""
    return isinstance(value, tuple) and len(value) == many


def _is_just(value, wanted):
    """Return whether any value is this one, of texts, integers and tuples; True is not 1 here."""
    if isinstance(wanted, tuple):
        return _is_tuple_of(value, len(wanted)) and all([_is_just(one, other) for one, other in zip(value, wanted)])
    if isinstance(wanted, str):
        return isinstance(value, str) and value == wanted
    return is_integer(value) and value == wanted
