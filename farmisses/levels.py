"""One level of a cache: its sets, and its shadow."""

from farmisses.places import places_for


class Level:
    """The sets and the shadow of a level, empty at first."""

    def __init__(self, level):
        sets, ways, rule, writes = level
        self.keeps_writes = writes == "back"
        self.many = sets
        self.most = sets * ways
        self._ways = ways
        self._rule = rule
        # The places of the sets that are not empty, by the numbers of the sets.
        self.rows = {}
        # The keys are the pairs (array, line), the last one last.
        self.shadow = {}

    def empty(self):
        """Empty the sets and the shadow."""
        self.rows = {}
        self.shadow = {}

    def begun_row(self, number):
        """Return the places of an empty set, into which a line is brought now."""
        row = places_for(self._rule, self._ways)
        self.rows[number] = row
        return row

    def dirty(self):
        """Return how many lines are dirty."""
        return sum([row.dirty() for row in self.rows.values()])

    def kept(self):
        """Return what pairs_with and go_on need of what stands here now."""
        return ({number: (list(row.held), row.extra()) for number, row in self.rows.items()}, list(self.shadow))

    def pairs_with(self, kept, moves, times):
        """Return the list of (array, line, line now) for all lines that stood when this was kept.

        Return None if more than lines differs: the places that are empty, what the rules keep, or what
        is kept with a line; or if a line neither stayed nor moved as often as times tells by what its
        array moves.
        """
        rows, shadow = kept
        if len(shadow) != len(self.shadow) or len(rows) != len(self.rows):
            return None
        pairs = []
        for (array, line), (owner, at) in zip(shadow, self.shadow):
            if array != owner or (at != line and at != line + times * moves.get(array, 0)):
                return None
            pairs.append((array, line, at))
        for number, (before, extra) in rows.items():
            row = self.rows.get(number)
            if row is None or len(before) != len(row.held) or (extra != () and extra != row.extra()):
                return None
            for (array, line, is_dirty, last), (owner, at, dirty_now, last_now) in zip(before, row.held):
                if array != owner or is_dirty != dirty_now or last != last_now:
                    return None
                pairs.append((array, line, at))
        return pairs

    def go_on(self, kept, times):
        """Move each line as often more as times tells by what it moved since this was kept."""
        rows, shadow = kept
        for number, (before, _) in rows.items():
            row = self.rows[number]
            row.held = [(array, line + times * (line - other), is_dirty, last)
                        for (_, other, _, _), (array, line, is_dirty, last) in zip(before, row.held)]
        self.shadow = {(array, at + times * (at - line)): True
                       for (_, line), (array, at) in zip(shadow, self.shadow)}

    def lines(self):
        """Return the list of the pairs (array, line) of all lines in the sets and in the shadow."""
        return [held[:2] for row in self.rows.values() for held in row.held] + list(self.shadow)

    def lines_beside(self, array, row):
        """Return the list of the lines of an array in a row, None for an empty one, and in the shadow."""
        lines = [line for owner, line in self.shadow if owner == array]
        if row is not None:
            for owner, line, _, _ in row.held:
                if owner == array:
                    lines.append(line)
        return lines

    def picture(self):
        """Return the pair (sets, shadow) as the state of a memory has it."""
        blank = places_for(self._rule, self._ways)
        rows = [self.rows.get(number, blank).picture() for number in range(self.many)]
        return (tuple(rows), tuple(reversed(list(self.shadow))))

    def restore(self, picture):
        """Take what picture has returned."""
        sets, shadow = picture
        self.rows = {}
        for number, (places, extra) in enumerate(sets):
            if places[0] is not None:
                self.begun_row(number).restore(places, extra)
        self.shadow = {key: True for key in reversed(list(shadow))}
