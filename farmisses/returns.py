"""Returns of loops: rounds before which the levels stand as they did, moved on by what arrays move."""

from math import gcd


class Sleep:
    """Tells which lines sleep from a round of a loop on, with the outer counters as they stand."""

    def __init__(self, loop, begin, outer, cache):
        self._loop = loop
        self._begin = begin
        self._outer = outer
        self._cells = cache.line
        self._period = cache.period
        self._spans = {}

    def reasons(self, array, line):
        """Return the numbers above 0 by which a line of an array sleeps, None if it does not."""
        reasons = []
        for least, greatest, indexes in self._spans_of(array):
            if not self._is_met(line, indexes):
                continue
            if line < least:
                reasons.append(least - line)
            elif line > greatest:
                reasons.append(line - greatest)
            else:
                return None
        return reasons

    def _is_met(self, line, indexes):
        """Return whether one of the indexes, modulo the period, is that of a cell of a line."""
        first = line * self._cells
        return any([(first + cell) % self._period in indexes for cell in range(self._cells)])

    def _spans_of(self, array):
        """Return the list of (least line, greatest line, indexes modulo the period) of the accesses of an array."""
        if array not in self._spans:
            touched = self._loop.touched
            self._spans[array] = [self._span(touch, inner) for touch, inner in touched if touch.array == array]
        return self._spans[array]

    def _span(self, touch, inner):
        """Return the triple for an access inside of inner loops."""
        loop = self._loop
        counters = [*self._outer, self._begin]
        first = touch.begin
        for depth, factor in touch.factors:
            if depth <= loop.depth:
                first += factor * counters[depth]
        spans = [(loop.depth, loop.rounds - self._begin), *inner]
        ways = [(touch.factor_at(depth), rounds) for depth, rounds in spans]
        least = first + sum([min(0, factor * (rounds - 1)) for factor, rounds in ways])
        greatest = first + sum([max(0, factor * (rounds - 1)) for factor, rounds in ways])
        return (least // self._cells, greatest // self._cells, self._indexes(first, ways))

    def _indexes(self, first, ways):
        """Return a dict of the indexes, modulo the period, that counters in these spans make."""
        period = self._period
        found = {first % period: True}
        for factor, rounds in ways:
            # Behind so many rounds the same indexes come again.
            numbers = range(min(rounds, period // gcd(period, factor)))
            found = {(index + factor * number) % period: True for index in found for number in numbers}
        return found


class Matching:
    """Tells whether later lines may stand for earlier ones, so many rounds of a loop before.

    pairs is a list of tuples (array, line, line later); moves is a dict from arrays to what they move
    in some rounds, which are done as often as times tells.
    """

    def __init__(self, pairs, moves, times):
        self.proofs = []
        self._are_alike = True
        self._pairs = pairs
        self._moves = moves
        self._times = times

    def holds(self, before):
        """Return whether each later line may stand for the one before, as all others do."""
        for array, line, at in self._pairs:
            if at != line + self._times * self._moves.get(array, 0):
                self._are_alike = False
                return self._holds_one_by_one(before.sleep())
        # Where all lines of an array are moved alike, no two of them meet or part.
        return True

    def _holds_one_by_one(self, sleep):
        """Return the same, where not all lines were moved."""
        later = {}
        taken = {}
        for array, line, at in self._pairs:
            key = (array, line)
            if key in later:
                if later[key] != at:
                    return False
            elif (array, at) in taken or not self._is_moved(array, line, at, sleep):
                return False
            else:
                later[key] = at
                taken[(array, at)] = True
        return True

    def _is_moved(self, array, line, at, sleep):
        """Return whether a line is an earlier one that was moved, or the earlier one itself which sleeps."""
        if at == line + self._times * self._moves.get(array, 0):
            return True
        # A line of an array that is not touched was told above: it does not move.
        if at != line:
            return False
        reasons = sleep.reasons(array, line)
        if reasons is None:
            return False
        self.proofs.extend(reasons)
        return True

    def compared(self):
        """Return a list of lists of pairs (array, line): the earlier lines and the later ones are compared."""
        later = [(array, at) for array, _, at in self._pairs]
        # Lines that were moved alike lie as far apart as they did.
        return [later] if self._are_alike else [[(array, line) for array, line, _ in self._pairs], later]


class Before:
    """What stood before a round of a loop: the round, what the memory kept of it, and the tally."""

    def __init__(self, loop, begin, counters, memory):
        self.begin = begin
        self.stood = memory.kept()
        self.counts = memory.tally
        self._loop = loop
        self._outer = counters[:loop.depth]
        self._cache = memory.cache
        self._sleep = None

    def sleep(self):
        """Return what tells which lines sleep from this round on; it is made when it is asked for."""
        if self._sleep is None:
            self._sleep = Sleep(self._loop, self.begin, self._outer, self._cache)
        return self._sleep

    def matching(self, memory, many):
        """Return how what stands so many rounds later is related, None if it is not."""
        times = many // self._loop.pace
        pairs = memory.pairs_with(self.stood, self._loop.moves, times)
        if pairs is None:
            return None
        found = Matching(pairs, self._loop.moves, times)
        return found if found.holds(self) else None
