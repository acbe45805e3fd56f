"""Judging the orders of a nest: rounds that touch one cell and change places."""

from farmisses.differences import Sums
from farmisses.errors import Uneven
from farmisses.plans import Touch, plan
from farmisses.sizes import is_integer


class Judge:
    """Judges the orders of a nest with these counters for n; without counters there is nothing to judge."""

    def __init__(self, program, n, counters):
        self._counters = counters
        self._names = program.arrays
        self._bounds = []
        block = plan(program, n) if counters != () else []
        for _ in counters:
            loop = block[0]
            self._bounds.append(loop.rounds)
            block = loop.block
        self._sites = [statement for statement in block if isinstance(statement, Touch)]
        self._differences = self._differences_found()
        # In an even nest, all accesses of an array that is written have the same factors.
        self._shared = {touch.array: self._factors(touch) for touch in self._sites}
        self._known = {}

    def _differences_found(self):
        """Return a dict from arrays to dicts from differences of indexes to the two accesses that have it."""
        found = {}
        for touch, other in self._compared():
            of_array = found.setdefault(touch.array, {})
            of_array.setdefault(touch.begin - other.begin, (touch.number, other.number))
        return found

    def _compared(self):
        """Return the list of the pairs of accesses of one array, not both reads; none if no round is done."""
        if 0 in self._bounds:
            return []
        return [(touch, other) for touch in self._sites for other in self._sites
                if touch.array == other.array and (touch.is_write or other.is_write)]

    def _factors(self, touch):
        """Return the list of the factors of all counters in the index of an access."""
        return [touch.factor_at(depth) for depth in range(len(self._bounds))]

    def check_even(self):
        """Raise Uneven by the first access whose factors differ from those of one that it is compared with."""
        for touch, other in self._compared():
            if self._factors(touch) != self._factors(other):
                raise Uneven(self._names[touch.array])

    def clash_in(self, order):
        """Return a clash of an order of a nest that is even, None if the order is legal."""
        for spans in self._spans_of(order):
            # Many orders let the same rounds change places.
            if spans not in self._known:
                self._known[spans] = self._clash_within(spans)
            if self._known[spans] is not None:
                return self._known[spans]
        return None

    def _spans_of(self, order):
        """Return the list of the spans in which the rounds of a clash may lie apart.

        In each of them one counter is the first, as the nest stands, that differs: it is greater in
        the round that stands behind; another one is the first in the order, and is less there.
        """
        depths = [self._counters.index(counter) for counter in order]
        return [self._span_row(first, last, depths[:at]) for at, last in enumerate(depths)
                for first in range(last) if first not in depths[:at]]

    def _span_row(self, first, last, equal):
        """Return the tuple of the pairs (least, greatest) of the differences of all counters."""
        spans = []
        for depth, bound in enumerate(self._bounds):
            if depth < first or depth in equal:
                spans.append((0, 0))
            elif depth == first:
                spans.append((1, bound - 1))
            elif depth == last:
                spans.append((1 - bound, -1))
            else:
                spans.append((1 - bound, bound - 1))
        return tuple(spans)

    def _clash_within(self, spans):
        """Return a clash of two rounds that lie apart in these spans, None if there is none."""
        for array, of_array in self._differences.items():
            factors = self._shared[array]
            sums = Sums([(factor, least, greatest) for factor, (least, greatest) in zip(factors, spans)])
            for difference, (access, other) in of_array.items():
                apart = sums.values_for(difference)
                if apart is not None:
                    begin = tuple([max(0, -number) for number in apart])
                    end = tuple([max(0, number) for number in apart])
                    return (access, other, begin, end)
        return None

    def is_clash(self, order, value):
        """Return whether any value is a clash of an order."""
        if not isinstance(value, tuple) or len(value) != 4:
            return False
        access, other, begin, end = value
        if not self._is_access(access) or not self._is_access(other):
            return False
        if not self._is_round(begin) or not self._is_round(end) or begin >= end:
            return False
        touch = self._sites[access]
        behind = self._sites[other]
        if touch.array != behind.array or not (touch.is_write or behind.is_write):
            return False
        depths = [self._counters.index(counter) for counter in order]
        changes_places = [end[depth] for depth in depths] < [begin[depth] for depth in depths]
        return changes_places and touch.index_at(begin) == behind.index_at(end)

    def _is_access(self, value):
        """Return whether any value is the number of an access of the nest."""
        return is_integer(value) and 0 <= value < len(self._sites)

    def _is_round(self, value):
        """Return whether any value is a round of the nest."""
        if not isinstance(value, tuple) or len(value) != len(self._bounds):
            return False
        return all([is_integer(number) and 0 <= number < bound for number, bound in zip(value, self._bounds)])
