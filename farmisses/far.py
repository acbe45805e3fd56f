"""Far numbers: sizes in a number m that is not known, but great.

A size in m is kept as its value for one number m that is greater than all coefficients that can
come up by far: a power of two. So far numbers are added, multiplied, divided and compared as
numbers are, and the coefficients are read off the value, like digits.
"""

from farmisses.machine import Memory
from farmisses.trees import sizes_of

_MOST_FACTORS = 5
_MORE_BITS = 250
_ASKED_BEFORE_LOOKING = 64
_FEW_LINES = 12
_MOST_KNOWN = 1000


def width_for(program):
    """Return how many bits a coefficient of any number on a far way of a program has, at most.

    A count has at most five numbers of rounds as factors, and an index has two sizes. Each of them
    takes 23 more bits for what makes n of m, and some for the steps that are counted.
    """
    parts = [abs(part) for size in sizes_of(program.tree()) for part in size]
    return _MOST_FACTORS * max([0] + parts).bit_length() + _MORE_BITS


def parts_of(number, width):
    """Return the coefficients of a size in m; those below 0 are told by a digit too great."""
    half = 1 << (width - 1)
    mask = 2 * half - 1
    parts = []
    while number != 0:
        part = number & mask
        number >>= width
        if part >= half:
            part -= 2 * half
            number += 1
        parts.append(part)
    return tuple(parts)


def least_above(parts):
    """Return a number from which on a size is above 0; its last coefficient is."""
    if _stays_above(parts, 0):
        return 0
    high = 1
    while not _stays_above(parts, high):
        high *= 2
    low = high // 2
    while high - low > 1:
        middle = (low + high) // 2
        if _stays_above(parts, middle):
            high = middle
        else:
            low = middle
    return high


def _stays_above(parts, number):
    """Return whether a size is above 0 for a number, and has no coefficient below 0 when counted from there."""
    moved = list(parts)
    for begin in range(len(moved)):
        for power in reversed(range(begin, len(moved) - 1)):
            moved[power] += number * moved[power + 1]
    return moved[0] > 0 and min(moved) >= 0


class FarNumbers:
    """What a way asks and tells about far numbers, and from which m on all of it is so."""

    def __init__(self, width, together):
        self.width = width
        self.half = 1 << (width - 1)
        self._together = together
        # Lines that lie a number with m apart, by this without what has no m: the least of these parts.
        self._apart = {}
        # Numbers that were noted to be above 0, and numbers by which lines were noted to lie apart.
        self._known_above = {}
        self._known_apart = {}
        self._least = 0

    def memory_for(self, cache, bases):
        """Return an empty memory."""
        return FarMemory(cache, bases, self)

    def far_part(self, number):
        """Return a number without the part that has no m, as a multiple of what stands for m."""
        return (number + self.half) >> self.width

    def goes_into(self, rounds, many):
        """Return whether a loop with so many rounds may do so many of them at once, again and again."""
        return all([part % many == 0 for part in parts_of(rounds, self.width)[1:]])

    def see_above(self, number):
        """Note that a number is taken to be above 0."""
        # A number without m is above 0 for all m; the same numbers come again and again.
        if number >= self.half and number not in self._known_above:
            _add_known(self._known_above, number)
            parts = parts_of(number, self.width)
            if not _stays_above(parts, self._least):
                self._least = least_above(parts)

    def see_apart(self, line, others):
        """Note that a line is compared with others of its array; those that are not equal must stay apart."""
        half = self.half
        known = self._known_apart
        for other in others:
            number = abs(line - other)
            if number >= half and number not in known:
                self._see_difference(number)

    def see_lines(self, lines):
        """Note that lines, given by pairs (array, line), are compared with one another."""
        if len(lines) <= _FEW_LINES:
            half = self.half
            known = self._known_apart
            for at, (array, line) in enumerate(lines):
                for owner, other in lines[:at]:
                    number = abs(line - other)
                    if owner == array and number >= half and number not in known:
                        self._see_difference(number)
        elif any([len(found) > 1 for found in list(self.far_parts(lines).values())]):
            self._see_spans(lines)

    def _see_spans(self, lines):
        """Note that many lines are compared with one another: each span with the one behind it."""
        spans = {}
        for array, line in lines:
            far = self.far_part(line)
            near = line - (far << self.width)
            key = (array, near % self._together, far)
            least, greatest = spans.get(key, (near, near))
            spans[key] = (min(least, near), max(greatest, near))
        order = sorted(list(spans))
        # Where each span lies behind the one before, no two lines meet.
        for before, behind in zip(order, order[1:]):
            if before[:2] == behind[:2]:
                self._note_apart(behind[2] - before[2], spans[behind][0] - spans[before][1])

    def far_parts(self, lines):
        """Return a dict from the arrays to dicts with the far parts of their lines, given by pairs (array, line)."""
        found = {}
        for array, line in lines:
            found.setdefault(array, {})[(line + self.half) >> self.width] = True
        return found

    def _see_difference(self, number):
        """Note that lines differ by a number with m, of which this was not known."""
        _add_known(self._known_apart, number)
        far = self.far_part(number)
        self._note_apart(far, number - (far << self.width))

    def _note_apart(self, far, near):
        """Note that a sum is taken not to be 0, far being a multiple of what stands for m.

        Lines that do not lie in the same sets at all levels are different ones for each m.
        """
        if near % self._together == 0 and near < self._apart.get(far, near + 1):
            self._apart[far] = near

    def least(self):
        """Return a number from which on all that was noted is so."""
        for far, near in self._apart.items():
            self.see_above((far << self.width) + near)
        return self._least


def _add_known(known, number):
    """Add a number to those that are known; if there are too many, the others are forgotten."""
    if len(known) == _MOST_KNOWN:
        known.clear()
    known[number] = True


class FarMemory(Memory):
    """A memory for far numbers; it tells them which lines are compared."""

    def __init__(self, cache, bases, numbers):
        Memory.__init__(self, cache, bases)
        self._is_watched = True
        self._numbers = numbers
        self._width = numbers.width
        self._half = numbers.half
        self._look_again()

    def put(self, state):
        """Take a state; the tally stays."""
        super().put(state)
        self._look_again()

    def go_on(self, kept, tally, times):
        """Do as often more as times tells what was done since something was kept, and what was counted then."""
        super().go_on(kept, tally, times)
        # It may be that only few requests follow, for which it is not worth while to look.
        self._has_gone_on = True
        self._asked = _ASKED_BEFORE_LOOKING - 4
        self._newest = [None] * len(self._levels)

    def _look_again(self):
        """Find for each level and array the far part of the lines that stand there, None for several ones."""
        self._fars = []
        for level in self._levels:
            found = self._numbers.far_parts(level.lines())
            self._fars.append({array: next(iter(parts), None) if len(parts) == 1 else None
                               for array, parts in found.items()})
        self._has_gone_on = False
        self._asked = 0
        # The pairs (array, line) of the last requests, which are in the levels and were compared there.
        self._newest = [None] * len(self._levels)

    def see_request(self, at, array, line, row):
        """Note a request for a line at a level, ahead of it; row is the set of the line, None if this is empty."""
        if self._asked == _ASKED_BEFORE_LOOKING:
            self._look_again()
        far = (line + self._half) >> self._width
        fars = self._fars[at]
        wanted = (array, line)
        # Lines with the same far part stay apart anyway.
        if (fars.setdefault(array, far) != far or self._has_gone_on) and self._newest[at] != wanted:
            self._asked += 1
            fars[array] = None
            self._numbers.see_apart(line, self._levels[at].lines_beside(array, row))
        self._newest[at] = wanted
