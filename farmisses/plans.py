"""Programs made ready for one number: all sizes are numbers, and counters are known by their depth."""

from math import gcd, lcm

from farmisses.sizes import value_of


class Touch:
    """An access: its number, the index of its array, its word, and the index of its cell.

    The index is begin, and for each pair (depth, factor) the factor times the counter of this depth.
    """

    def __init__(self, number, array, is_write, begin, factors):
        self.number = number
        self.array = array
        self.is_write = is_write
        self.begin = begin
        self.factors = factors

    def index_at(self, counters):
        """Return the index for these values of the counters."""
        index = self.begin
        for depth, factor in self.factors:
            index += factor * counters[depth]
        return index

    def factor_at(self, depth):
        """Return the factor of the counter of a depth, 0 if it does not stand in the index."""
        return sum([factor for at, factor in self.factors if at == depth])


class Loop:
    """A loop: its depth, how many rounds it has, its block, and how many accesses it makes in a round.

    touched is the list of the pairs (touch, inner) of the accesses in it that are made, if it has a
    round itself: inner is the tuple of the pairs (depth, rounds) of the loops between it and the access.
    pace is its pace for caches with a period and with lines of some cells, 0 if it is not even; moves is
    the dict from the arrays touched to the lines by which they move in so many rounds.
    """

    def __init__(self, depth, rounds, block, period, cells):
        self.depth = depth
        self.rounds = rounds
        self.block = block
        self.many = accesses_in(block)
        self.touched = touched_in(block)
        factors = even_factors(self.touched, depth)
        self.pace = 0 if factors is None else pace_of(factors, period)
        self.moves = {}
        if factors is not None:
            self.moves = {array: self.pace * factor // cells for array, factor in factors.items()}


class Flush:
    """A flush."""


class Planner:
    """Makes the statements of a program ready for a number, and for caches with a period and lines of some cells."""

    def __init__(self, program, n, period, cells):
        self._arrays = {name: at for at, name in enumerate(program.arrays)}
        self._n = n
        self._period = period
        self._cells = cells
        self._number = 0

    def made_block(self, block, counters):
        """Return the list of the statements of a block inside loops with these counters."""
        return [self._statement(statement, counters) for statement in block]

    def _statement(self, statement, counters):
        """Return a statement made ready."""
        if statement[0] == "flush":
            return Flush()
        if statement[0] == "for":
            _, counter, parts, inner = statement
            rounds = max(0, value_of(parts, self._n))
            block = self.made_block(inner, counters + [counter])
            return Loop(len(counters), rounds, block, self._period, self._cells)
        return self._touch(statement, counters)

    def _touch(self, statement, counters):
        """Return an access made ready."""
        word, array, (parts, factors) = statement
        values = [(counters.index(counter), value_of(factor, self._n)) for counter, factor in factors]
        number = self._number
        self._number += 1
        begin = value_of(parts, self._n)
        return Touch(number, self._arrays[array], word == "write", begin, tuple(values))


def plan(program, n, period=1, cells=1):
    """Return the list of the statements of a program made ready for n, and for caches with a period and such lines."""
    return Planner(program, n, period, cells).made_block(program.body, [])


def accesses_in(block):
    """Return how many accesses a block makes."""
    return sum([made_by(statement) for statement in block])


def made_by(statement):
    """Return how many accesses a statement makes."""
    if isinstance(statement, Loop):
        return statement.rounds * statement.many
    return 1 if isinstance(statement, Touch) else 0


def steps_in(block):
    """Return how many rounds, accesses and flushes a block makes."""
    steps = 0
    for statement in block:
        steps += statement.rounds * (1 + steps_in(statement.block)) if isinstance(statement, Loop) else 1
    return steps


def without_idle_loops(block):
    """Return a block without the loops, however deep they stand, that make no access and no flush."""
    kept = []
    for statement in block:
        if isinstance(statement, Loop):
            statement.block = without_idle_loops(statement.block)
        if not isinstance(statement, Loop) or (statement.rounds > 0 and statement.block != []):
            kept.append(statement)
    return kept


def touched_in(block):
    """Return the list of the pairs (touch, inner) of the accesses of a block that are made."""
    found = []
    for statement in block:
        if isinstance(statement, Touch):
            found.append((statement, ()))
        elif isinstance(statement, Loop) and statement.rounds > 0:
            own = (statement.depth, statement.rounds)
            found.extend([(touch, (own, *inner)) for touch, inner in statement.touched])
    return found


def even_factors(touched, depth):
    """Return the dict from arrays to the factors of the counter of a depth, None if an array has two."""
    factors = {}
    for touch, _ in touched:
        factor = touch.factor_at(depth)
        if factors.setdefault(touch.array, factor) != factor:
            return None
    return factors


def pace_of(factors, period):
    """Return the least number of rounds in which each array moves by a multiple of a period."""
    pace = 1
    for factor in list(factors.values()):
        pace = lcm(pace, period // gcd(period, factor))
    return pace


def bases_of(program, cache, n):
    """Return the list of the numbers of the first line of each array in the memory."""
    bases = []
    free = 0
    for array in program.arrays:
        bases.append(free)
        cells = max(0, value_of(program.size_of(array), n))
        free += -(-cells // cache.line)
    return bases
