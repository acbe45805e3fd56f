"""Returns of loops: rounds before which the levels stand as they did, moved on by what arrays move."""

from math import gcd


class Sleep:
    """Tells which lines sleep from a round of a loop on, with the outer counters as they stand."""

    def __init__(self, loop, begin, counters, cache):
        self._loop = loop
        self._begin = begin
        self._outer = counters[:loop.depth]
        self._cells = cache.line
        self._period = cache.period
        self._spans = {}

    def reasons(self, array, line):
        """Return the numbers above 0 by which a line of an array sleeps, None if it does not."""
        reasons = []
        for least, greatest, indexes in self._spans_of(array):
            if not self._is_met(line, indexes):
                continue
            if line < least:
                reasons.append(least - line)
            elif line > greatest:
                reasons.append(line - greatest)
            else:
                return None
        return reasons

    def _is_met(self, line, indexes):
        """Return whether one of the indexes, modulo the period, is that of a cell of a line."""
        first = line * self._cells
        return any([(first + cell) % self._period in indexes for cell in range(self._cells)])

    def _spans_of(self, array):
        """Return the list of (least line, greatest line, indexes modulo the period) of the accesses of an array."""
        if array not in self._spans:
            touched = self._loop.touched
            self._spans[array] = [self._span(touch, inner) for touch, inner in touched if touch.array == array]
        return self._spans[array]

    def _span(self, touch, inner):
        """Return the triple for an access inside of inner loops."""
        loop = self._loop
        counters = [*self._outer, self._begin]
        first = touch.begin
        for depth, factor in touch.factors:
            if depth <= loop.depth:
                first += factor * counters[depth]
        spans = [(loop.depth, loop.rounds - self._begin), *inner]
        ways = [(touch.factor_at(depth), rounds) for depth, rounds in spans]
        least = first + sum([min(0, factor * (rounds - 1)) for factor, rounds in ways])
        greatest = first + sum([max(0, factor * (rounds - 1)) for factor, rounds in ways])
        return (least // self._cells, greatest // self._cells, self._indexes(first, ways))

    def _indexes(self, first, ways):
        """Return a dict of the indexes, modulo the period, that counters in these spans make."""
        period = self._period
        found = {first % period: True}
        for factor, rounds in ways:
            # Behind so many rounds the same indexes come again.
            numbers = range(min(rounds, period // gcd(period, factor)))
            found = {(index + factor * number) % period: True for index in found for number in numbers}
        return found


class Matching:
    """Tells which later lines may stand for which earlier ones, so many rounds of a loop before."""

    def __init__(self, moves, sleep):
        self.proofs = []
        self._moves = moves
        self._sleep = sleep
        self._later = {}
        self._taken = {}

    def matches(self, earlier, later):
        """Return whether a state is related to an earlier one."""
        for (_, shadow), (_, other) in zip(earlier, later):
            if len(shadow) != len(other):
                return False
        for (rows, _), (others, _) in zip(earlier, later):
            for row, other in zip(rows, others):
                if not self._matches_row(row, other):
                    return False
        for (_, shadow), (_, other) in zip(earlier, later):
            for (array, line), (owner, at) in zip(shadow, other):
                if array != owner or not self._matches_line(array, line, at):
                    return False
        return True

    def _matches_row(self, row, other):
        """Return whether the places of a set may stand for those of an earlier one."""
        places, extra = row
        others, more = other
        if extra != more:
            return False
        for held, now in zip(places, others):
            if held is None or now is None:
                if held is not None or now is not None:
                    return False
                continue
            array, line, is_dirty, last = held
            owner, at, is_dirty_now, last_now = now
            if array != owner or is_dirty != is_dirty_now or last != last_now:
                return False
            if not self._matches_line(array, line, at):
                return False
        return True

    def _matches_line(self, array, line, at):
        """Return whether a line of an array may stand for an earlier one, as all those before do."""
        key = (array, line)
        if key in self._later:
            return self._later[key] == at
        if (array, at) in self._taken or not self._is_moved(array, line, at):
            return False
        self._later[key] = at
        self._taken[(array, at)] = True
        return True

    def _is_moved(self, array, line, at):
        """Return whether a line is an earlier one that was moved, or the earlier one itself which sleeps."""
        if at == line + self._moves.get(array, 0):
            return True
        # A line of an array that is not touched was told above: it does not move.
        if at != line:
            return False
        reasons = self._sleep.reasons(array, line)
        if reasons is None:
            return False
        self.proofs.extend(reasons)
        return True


class Before:
    """What stood before a round of a loop: the round, the state and the tally."""

    def __init__(self, loop, begin, counters, memory):
        self.begin = begin
        self.stood = memory.state
        self.counts = memory.tally
        self._loop = loop
        self._cells = memory.cache.line
        self._sleep = Sleep(loop, begin, counters, memory.cache)

    def reasons(self, state, many):
        """Return the numbers above 0 by which a state so many rounds later is related, None if it is not."""
        moves = {array: many * factor // self._cells for array, factor in self._loop.factors.items()}
        matching = Matching(moves, self._sleep)
        if not matching.matches(self.stood, state):
            return None
        return matching.proofs


def lines_in(state):
    """Return the list of the pairs (array, line) in all places and shadows of a state."""
    found = []
    for rows, shadow in state:
        found.extend(list(shadow))
        for places, _ in rows:
            found.extend([held[:2] for held in places if held is not None])
    return found


def gone_on(earlier, later, times):
    """Return the state when what led from an earlier to a later one is done so many times more."""
    return tuple([(tuple([_row_on(row, other, times) for row, other in zip(rows, others)]),
                   tuple([_line_on(held, now, times) for held, now in zip(shadow, shadow_now)]))
                  for (rows, shadow), (others, shadow_now) in zip(earlier, later)])


def _row_on(row, other, times):
    """Return what a set becomes."""
    places, _ = row
    others, extra = other
    return (tuple([_held_on(held, now, times) for held, now in zip(places, others)]), extra)


def _held_on(held, now, times):
    """Return what a place becomes."""
    if now is None:
        return None
    _, _, is_dirty, last = now
    return (*_line_on(held[:2], now[:2], times), is_dirty, last)


def _line_on(held, now, times):
    """Return what a line becomes; one that was not moved stays."""
    _, line = held
    array, at = now
    return (array, at + times * (at - line))


def counted_on(earlier, later, times):
    """Return the tally when what was counted between two of them is counted so many times more."""
    return {key: many + times * (many - earlier.get(key, 0)) for key, many in later.items()}
