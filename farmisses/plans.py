"""Programs made ready for one number: all sizes are numbers, and counters are known by their depth."""

from farmisses.sizes import Size


class Touch:
    """An access: its number, the index of its array, its word, and the index of its cell.

    The index is begin, and for each pair (depth, factor) the factor times the counter of this depth.
    """

    def __init__(self, number, array, is_write, begin, factors):
        self.number = number
        self.array = array
        self.is_write = is_write
        self.begin = begin
        self.factors = factors

    def index_at(self, counters):
        """Return the index for these values of the counters."""
        index = self.begin
        for depth, factor in self.factors:
            index += factor * counters[depth]
        return index

    def factor_at(self, depth):
        """Return the factor of the counter of a depth, 0 if it does not stand in the index."""
        return sum([factor for at, factor in self.factors if at == depth])


class Loop:
    """A loop: its depth, how many rounds it has, its block, and how many accesses it makes in a round.

    touched is the list of the pairs (touch, inner) of the accesses in it that are made, if it has a
    round itself: inner is the tuple of the pairs (depth, rounds) of the loops between it and the access.
    """

    def __init__(self, depth, rounds, block, many, touched):
        self.depth = depth
        self.rounds = rounds
        self.block = block
        self.many = many
        self.touched = touched


class Flush:
    """A flush."""


class Planner:
    """Makes the statements of a program ready for a number."""

    def __init__(self, program, n):
        self._indexes = {name: at for at, name in enumerate(program.arrays)}
        self._n = n
        self._number = 0

    def made_block(self, block, counters):
        """Return the list of the statements of a block inside loops with these counters."""
        return [self._statement(statement, counters) for statement in block]

    def _statement(self, statement, counters):
        """Return a statement made ready."""
        if statement[0] == "flush":
            return Flush()
        if statement[0] == "for":
            _, counter, parts, inner = statement
            rounds = max(0, Size(parts)(self._n))
            block = self.made_block(inner, counters + [counter])
            touched = touched_in(block)
            return Loop(len(counters), rounds, block, accesses_in(block), touched)
        return self._touch(statement, counters)

    def _touch(self, statement, counters):
        """Return an access made ready."""
        word, array, (parts, factors) = statement
        values = [(counters.index(counter), Size(factor)(self._n)) for counter, factor in factors]
        number = self._number
        self._number += 1
        begin = Size(parts)(self._n)
        return Touch(number, self._indexes[array], word == "write", begin, tuple(values))


def plan(program, n):
    """Return the list of the statements of a program made ready for n."""
    return Planner(program, n).made_block(program.body, [])


def accesses_in(block):
    """Return how many accesses a block makes."""
    return sum([made_by(statement) for statement in block])


def made_by(statement):
    """Return how many accesses a statement makes."""
    if isinstance(statement, Loop):
        return statement.rounds * statement.many
    return 1 if isinstance(statement, Touch) else 0


def touched_in(block):
    """Return the list of the pairs (touch, inner) of the accesses of a block that are made."""
    found = []
    for statement in block:
        if isinstance(statement, Touch):
            found.append((statement, ()))
        elif isinstance(statement, Loop) and statement.rounds > 0:
            own = (statement.depth, statement.rounds)
            found.extend([(touch, (own, *inner)) for touch, inner in statement.touched])
    return found


def bases_of(program, cache, n):
    """Return the list of the numbers of the first line of each array in the memory."""
    bases = []
    free = 0
    for array in program.arrays:
        bases.append(free)
        cells = max(0, Size(program.size_of(array))(n))
        free += -(-cells // cache.line)
    return bases
