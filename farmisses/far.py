"""Far numbers: sizes in a number m that is not known, but great.

A size in m is kept as its value for one number m that is greater than all coefficients that can
come up by far: a power of two. So far numbers are added, multiplied, divided and compared as
numbers are, and the coefficients are read off the value, like digits.
"""

from farmisses.machine import Memory
from farmisses.trees import sizes_of

_MOST_FACTORS = 5
_MORE_BITS = 250
_ASKED_BEFORE_LOOKING = 64


def width_for(program):
    """Return how many bits a coefficient of any number on a far way of a program has, at most.

    A count has at most five numbers of rounds as factors, and an index has two sizes. Each of them
    takes 23 more bits for what makes n of m, and some for the steps that are counted.
    """
    parts = [abs(part) for size in sizes_of(program.tree()) for part in size]
    return _MOST_FACTORS * max([0] + parts).bit_length() + _MORE_BITS


def parts_of(number, width):
    """Return the coefficients of a size in m; those below 0 are told by a digit too great."""
    half = 1 << (width - 1)
    parts = []
    while number != 0:
        part = (number + half) % (2 * half) - half
        parts.append(part)
        number = (number - part) >> width
    return tuple(parts)


def least_above(parts):
    """Return a number from which on a size is above 0; its last coefficient is."""
    if _stays_above(parts, 0):
        return 0
    high = 1
    while not _stays_above(parts, high):
        high *= 2
    low = high // 2
    while high - low > 1:
        middle = (low + high) // 2
        if _stays_above(parts, middle):
            high = middle
        else:
            low = middle
    return high


def _stays_above(parts, number):
    """Return whether a size is above 0 for a number, and has no coefficient below 0 when counted from there."""
    moved = list(parts)
    for begin in range(len(moved)):
        for power in reversed(range(begin, len(moved) - 1)):
            moved[power] += number * moved[power + 1]
    return moved[0] > 0 and min(moved) >= 0


class FarNumbers:
    """What a way asks and tells about far numbers, and from which m on all of it is so."""

    def __init__(self, width, together):
        self._width = width
        self._together = together
        self._half = 1 << (width - 1)
        # Lines that lie a number with m apart, without what has no m: the least of these parts.
        self._apart = {}
        self._least = 0

    def memory_for(self, cache, bases):
        """Return an empty memory."""
        return FarMemory(cache, bases, self)

    def near_part(self, number):
        """Return the part of a number without m."""
        return (number + self._half) % (2 * self._half) - self._half

    def goes_into(self, rounds, many):
        """Return whether a loop with so many rounds may do so many of them at once, again and again."""
        return all([part % many == 0 for part in parts_of(rounds, self._width)[1:]])

    def see_above(self, number):
        """Note that a number is taken to be above 0."""
        parts = parts_of(number, self._width)
        if not _stays_above(parts, self._least):
            self._least = least_above(parts)

    def see_apart(self, line, others):
        """Note that a line is compared with others of its array; those that are not equal must stay apart."""
        for other in others:
            number = abs(line - other)
            if number >= self._half:
                near = self.near_part(number)
                self._note_apart(number - near, near)

    def see_lines(self, lines):
        """Note that lines, given by pairs (array, line), are compared with one another."""
        spans = {}
        for array, line in lines:
            near = self.near_part(line)
            key = (array, near % self._together, line - near)
            least, greatest = spans.get(key, (near, near))
            spans[key] = (min(least, near), max(greatest, near))
        order = sorted(list(spans))
        # Where each span lies behind the one before, no two lines meet.
        for before, behind in zip(order, order[1:]):
            if before[:2] == behind[:2]:
                self._note_apart(behind[2] - before[2], spans[behind][0] - spans[before][1])

    def _note_apart(self, far, near):
        """Note that a sum is taken not to be 0, far being a number with m.

        Lines that do not lie in the same sets at all levels are different ones for each m.
        """
        if near % self._together == 0 and near < self._apart.get(far, near + 1):
            self._apart[far] = near

    def least(self):
        """Return a number from which on all that was noted is so."""
        for far, near in self._apart.items():
            self.see_above(far + near)
        return self._least


class FarMemory(Memory):
    """A memory for far numbers; it tells them which lines are compared."""

    def __init__(self, cache, bases, numbers):
        Memory.__init__(self, cache, bases)
        self._numbers = numbers
        self._look_again()

    def put(self, state):
        """Take a state; the tally stays."""
        super().put(state)
        self._look_again()

    def _look_again(self):
        """Find for each level and array the far parts of the lines that stand there."""
        self._parts = []
        for level in self._levels:
            found = {}
            for array, line in level.lines():
                found.setdefault(array, {})[line - self._numbers.near_part(line)] = True
            self._parts.append(found)
        self._asked = 0

    def _request(self, at, array, line, is_write, number):
        """Do a request of an access at a level; behind the last one lies the memory."""
        if at < len(self._levels):
            if self._asked == _ASKED_BEFORE_LOOKING:
                self._look_again()
            found = self._parts[at].setdefault(array, {})
            found[line - self._numbers.near_part(line)] = True
            # Lines with the same far part stay apart anyway.
            if len(found) > 1:
                self._asked += 1
                self._numbers.see_apart(line, self._levels[at].lines_beside(array, self._bases[array] + line))
        super()._request(at, array, line, is_write, number)
