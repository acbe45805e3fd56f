"""The places of one set of a level, by each of the four rules.

A line in a place is a tuple (array, line, is_dirty, last access). The lines stand in a list: by the
rules `used` and `brought` in the order of use or of bringing, the last one first; by the other two
in the order of their places, which are taken in ascending order. So the empty places stand at its end.
"""


class Places:
    """What the sets of all rules have in common."""

    def __init__(self, ways):
        self._ways = ways
        self._held = []

    def place_of(self, array, line):
        """Return the place of a line, -1 if it does not stand here."""
        for place, (owner, at, _, _) in enumerate(self._held):
            if at == line and owner == array:
                return place
        return -1

    def is_full(self):
        """Return whether no place is empty."""
        return len(self._held) == self._ways

    def _after_hit(self, place, makes_dirty, access):
        """Return what a line becomes by a hit of an access."""
        array, line, is_dirty, _ = self._held[place]
        return (array, line, is_dirty or makes_dirty, access)

    def lines(self):
        """Return the list of the pairs (array, line) of the lines."""
        return [held[:2] for held in self._held]

    def dirty(self):
        """Return how many lines are dirty."""
        return len([True for _, _, is_dirty, _ in self._held if is_dirty])

    def extra(self):
        """Return what the rule keeps besides the order of the lines."""
        return ()

    def picture(self):
        """Return the pair (places, extra), with None for each empty place."""
        return (tuple(self._held) + (None,) * (self._ways - len(self._held)), self.extra())

    def restore(self, places, extra):
        """Take what picture has returned."""
        self._held = [held for held in places if held is not None]
        self.restore_extra(extra)

    def restore_extra(self, extra):
        """Take what extra has returned."""


class BroughtPlaces(Places):
    """Places of which the one is taken whose line was brought longest ago."""

    def hit(self, place, makes_dirty, access):
        """Note a hit of an access at a place."""
        self._held[place] = self._after_hit(place, makes_dirty, access)

    def bring(self, held):
        """Put a line into a place; return the one that is thrown out, None if there is none."""
        thrown = self._held.pop() if self.is_full() else None
        self._held.insert(0, held)
        return thrown


class UsedPlaces(BroughtPlaces):
    """Places of which the one is taken whose line was used longest ago."""

    def hit(self, place, makes_dirty, access):
        """Note a hit of an access at a place."""
        held = self._after_hit(place, makes_dirty, access)
        del self._held[place]
        self._held.insert(0, held)


class SecondPlaces(Places):
    """Places with lights, and a pointer that goes over the lines that are hit a first time."""

    def __init__(self, ways):
        Places.__init__(self, ways)
        self._pointer = 0
        self._lights = [False] * ways

    def hit(self, place, makes_dirty, access):
        """Note a hit of an access at a place."""
        self._held[place] = self._after_hit(place, makes_dirty, access)
        self._lights[place] = True

    def bring(self, held):
        """Put a line into a place; return the one that is thrown out, None if there is none."""
        if not self.is_full():
            # Its light is out: it is so at first, and nothing but a hit lights it.
            self._held.append(held)
            return None
        while self._lights[self._pointer]:
            self._lights[self._pointer] = False
            self._go_on()
        place = self._pointer
        thrown = self._held[place]
        self._held[place] = held
        self._go_on()
        return thrown

    def _go_on(self):
        """Move the pointer one place further."""
        self._pointer = (self._pointer + 1) % self._ways

    def extra(self):
        """Return the pointer and the lights."""
        return (self._pointer, tuple(self._lights))

    def restore_extra(self, extra):
        """Take the pointer and the lights."""
        pointer, lights = extra
        self._pointer = pointer
        self._lights = list(lights)


class TreePlaces(Places):
    """Places with bits that tell the side that comes next."""

    def __init__(self, ways):
        Places.__init__(self, ways)
        # One bit for one pair, three for two pairs: that of the pairs is the first one.
        self._bits = [False] * (ways - 1)

    def hit(self, place, makes_dirty, access):
        """Note a hit of an access at a place."""
        self._held[place] = self._after_hit(place, makes_dirty, access)
        self._turn_from(place)

    def bring(self, held):
        """Put a line into a place; return the one that is thrown out, None if there is none."""
        thrown = None
        if self.is_full():
            place = self._next_place()
            thrown = self._held[place]
            self._held[place] = held
        else:
            place = len(self._held)
            self._held.append(held)
        self._turn_from(place)
        return thrown

    def _turn_from(self, place):
        """Put the bits on the way to a place so that they tell the other side."""
        if self._ways == 2:
            self._bits[0] = place == 0
        elif self._ways == 4:
            self._bits[0] = place < 2
            self._bits[1 + place // 2] = place % 2 == 0

    def _next_place(self):
        """Return the place that the bits tell."""
        if self._ways == 1:
            return 0
        if self._ways == 2:
            return int(self._bits[0])
        pair = int(self._bits[0])
        return 2 * pair + int(self._bits[1 + pair])

    def extra(self):
        """Return the bits."""
        return tuple(self._bits)

    def restore_extra(self, extra):
        """Take the bits."""
        self._bits = list(extra)


def places_for(rule, ways):
    """Return the empty places of a set with a rule."""
    if rule == "used":
        return UsedPlaces(ways)
    if rule == "brought":
        return BroughtPlaces(ways)
    if rule == "second":
        return SecondPlaces(ways)
    return TreePlaces(ways)
