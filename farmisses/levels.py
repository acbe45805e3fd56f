"""One level of a cache: its sets, and its shadow."""

from farmisses.places import places_for


class Level:
    """The sets and the shadow of a level, empty at first."""

    def __init__(self, level):
        sets, ways, rule, writes = level
        self.keeps_writes = writes == "back"
        self._sets = sets
        self._ways = ways
        self._rule = rule
        self._rows = []
        # The keys are the lines, the last one last.
        self._shadow = {}
        self.empty()

    def empty(self):
        """Empty the sets and the shadow."""
        self._rows = [places_for(self._rule, self._ways) for _ in range(self._sets)]
        self._shadow = {}

    def row(self, number):
        """Return the places of the set in which the line with this number in the memory lies."""
        return self._rows[number % self._sets]

    def dirty(self):
        """Return how many lines are dirty."""
        return sum([row.dirty() for row in self._rows])

    def was_near(self, array, line):
        """Note a request for a line; return whether it stood in the shadow."""
        key = (array, line)
        was_there = key in self._shadow
        if was_there:
            del self._shadow[key]
        elif len(self._shadow) == self._sets * self._ways:
            del self._shadow[next(iter(self._shadow), None)]
        self._shadow[key] = True
        return was_there

    def lines(self):
        """Return the list of the pairs (array, line) of all lines in the sets and in the shadow."""
        return [line for row in self._rows for line in row.lines()] + list(self._shadow)

    def lines_beside(self, array, number):
        """Return the list of the lines of an array with which one with this number in the memory is compared."""
        return [line for owner, line in self.row(number).lines() + list(self._shadow) if owner == array]

    def picture(self):
        """Return the pair (sets, shadow) as the state of a memory has it."""
        return (tuple([row.picture() for row in self._rows]), tuple(reversed(list(self._shadow))))

    def restore(self, picture):
        """Take what picture has returned."""
        rows, shadow = picture
        for row, (places, extra) in zip(self._rows, rows):
            row.restore(places, extra)
        self._shadow = {key: True for key in reversed(list(shadow))}
