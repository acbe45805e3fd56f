"""Numbers that a program fits: all accesses that are made lie in their arrays."""

from farmisses.errors import InvalidNumber, OutOfRange
from farmisses.sizes import is_integer, value_of

_GREATEST = 10 ** 60


def check_number(n):
    """Raise InvalidNumber unless any value is a number for a program."""
    if not is_integer(n) or n < 0 or n > _GREATEST:
        raise InvalidNumber(n)


def check_fits(program, n):
    """Raise InvalidNumber for a wrong n, OutOfRange by the first access that does not fit it."""
    check_number(n)
    access = first_outside(program, n)
    if access is not None:
        raise OutOfRange(access)


def fits(program, n):
    """Return whether all accesses that are made lie in their arrays."""
    check_number(n)
    return first_outside(program, n) is None


def first_outside(program, n):
    """Return the number of the first access that leaves its array, None if there is none."""
    for access, least, greatest in extents(program, n):
        _, array, _ = program.accesses[access]
        if least < 0 or greatest >= value_of(program.size_of(array), n):
            return access
    return None


def facts(program, n):
    """Return the list of numbers that are above 0 where a program fits n.

    For all numbers for which they are, the same loops have rounds, the same accesses are made, and
    the counters make an index least and greatest with the same values.
    """
    found = []
    for array in program.arrays:
        cells = value_of(program.size_of(array), n)
        found.append(1 + cells if cells >= 0 else -cells)
    _add_facts(program.body, n, found)
    for access, least, greatest in extents(program, n):
        _, array, _ = program.accesses[access]
        found.extend([least + 1, value_of(program.size_of(array), n) - greatest])
    return found


def _add_facts(block, n, found):
    """Add what is above 0 for the loops and factors of a block."""
    for statement in block:
        if statement[0] == "for":
            rounds = value_of(statement[2], n)
            found.append(rounds if rounds > 0 else 1 - rounds)
            if rounds > 0:
                _add_facts(statement[3], n, found)
        elif statement[0] != "flush":
            _, factors = statement[2]
            found.extend([abs(value) for value in [value_of(factor, n) for _, factor in factors] if value != 0])


def extents(program, n):
    """Return the list of (access, least index, greatest index) of the accesses that are made."""
    found = []
    _add_extents(program.body, {}, n, 0, found)
    return found


def _add_extents(block, last, n, access, found):
    """Add what a block has; last has the last values of the counters around it, below 0 for no rounds.

    Return the number of the access that comes next.
    """
    for statement in block:
        if statement[0] == "for":
            _, counter, parts, inner = statement
            access = _add_extents(inner, {**last, counter: value_of(parts, n) - 1}, n, access, found)
        elif statement[0] != "flush":
            if all([value >= 0 for value in list(last.values())]):
                found.append((access, *_ends(statement[2], last, n)))
            access += 1
    return access


def _ends(index, last, n):
    """Return the least and the greatest value of an index."""
    parts, factors = index
    least = value_of(parts, n)
    greatest = least
    for counter, factor in factors:
        way = value_of(factor, n) * last[counter]
        least = least + min(0, way)
        greatest = greatest + max(0, way)
    return (least, greatest)
