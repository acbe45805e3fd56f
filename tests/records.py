"""What formulas, their papers and told_formula tell of a program and a cache, as one short text."""

import hashlib

from farmisses.caches import Cache
from farmisses.errors import LimitExceeded, OutOfRange
from farmisses.formulas import formula, told_formula
from farmisses.programs import Program


def told_of(found):
    """All that a formula tells, as a text; None for no formula."""
    if found is None:
        return None
    cases = [found.case(rest) for rest in range(found.period)]
    return repr((found.period, [(least, sorted(parts.items())) for least, parts in cases], found.paper()))


def bent_entries(entries):
    """Papers near by the one of a case."""
    yield entries[1:]
    yield entries + (None,)
    for at, entry in list(enumerate(entries))[:4]:
        if entry is None:
            others = [(0, 1), (3, 2)]
        else:
            begin, many = entry
            others = [None, (begin + 1, many), (begin + 7, many), (begin, 2 * many), (begin, 4 * many), (begin, many + 1)]
            others += [(begin - 1, many)] if begin > 0 else []
        for other in others:
            yield entries[:at] + (other,) + entries[at + 1:]


def bent_papers(value):
    """Papers near by another one, by what is changed at one of its cases."""
    period, cases = value
    for rest in [0, period - 1]:
        least, entries = cases[rest]
        bent = [(least - 1, entries), (least + 1, entries), (0, entries), (2 * least + 9, entries)]
        bent += [(least + 99, other) for other in bent_entries(entries)]
        for case in bent:
            yield (period, cases[:rest] + (case,) + cases[rest + 1:])
    yield (period, cases[1:] + cases[:1])
    yield (period, cases[::-1])
    yield (2 * period, cases * 2)


def told(program_text, cache_text):
    """All of it: the formula, or its error, and what is told of papers near by."""
    program, cache = Program.read(program_text), Cache.read(cache_text)
    try:
        found = formula(program, cache)
    except OutOfRange as error:
        return f"outside {error.access}"
    except LimitExceeded as error:
        return f"limit {error.word}"
    parts = [told_of(found)]
    for value in bent_papers(found.paper()):
        parts.append(str(told_of(told_formula(program, cache, value))))
    return "\n".join(parts)


def digest(program_text, cache_text):
    return hashlib.sha256(told(program_text, cache_text).encode("ascii")).hexdigest()[:24]
