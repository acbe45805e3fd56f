"""The places of one set of a level, by each of the four rules.

A line in a place is a tuple (array, line, is_dirty, last access). The lines stand in a list: by the
rules `used` and `brought` in the order of use or of bringing, the last one first; by the other two
in the order of their places, which are taken in ascending order. So the empty places, which the list
lacks, stand at its end.

Each rule has a method meet(array, line, is_kept, is_brought, access), for a request of an access for a
line. It returns True if the line stands here. If not, it brings the line, if that is to be brought, and
returns the line that was thrown out, None if there is none. A line that is kept becomes dirty.
"""


class Places:
    """What the sets of all rules have in common."""

    def __init__(self, ways):
        self._ways = ways
        self.held = []

    def place_of(self, array, line):
        """Return the place of a line, -1 if it does not stand here."""
        place = 0
        for owner, at, _, _ in self.held:
            if at == line and owner == array:
                return place
            place += 1
        return -1

    def dirty(self):
        """Return how many lines are dirty."""
        return len([True for _, _, is_dirty, _ in self.held if is_dirty])

    def extra(self):
        """Return what the rule keeps besides the order of the lines."""
        return ()

    def picture(self):
        """Return the pair (places, extra), with None for each empty place."""
        return (tuple(self.held) + (None,) * (self._ways - len(self.held)), self.extra())

    def restore(self, places, extra):
        """Take what picture has returned."""
        self.held = [held for held in places if held is not None]
        self.restore_extra(extra)

    def restore_extra(self, extra):
        """Take what extra has returned."""


class UsedPlaces(Places):
    """Places of which the one is taken whose line was used longest ago."""

    def meet(self, array, line, is_kept, is_brought, access):
        """Do a request."""
        held = self.held
        place = self.place_of(array, line)
        if place >= 0:
            _, _, is_dirty, _ = held.pop(place)
            held.insert(0, (array, line, is_dirty or is_kept, access))
            return True
        return _put_first(held, (array, line, is_kept, access), self._ways) if is_brought else None


class BroughtPlaces(Places):
    """Places of which the one is taken whose line was brought longest ago."""

    def meet(self, array, line, is_kept, is_brought, access):
        """Do a request."""
        held = self.held
        place = self.place_of(array, line)
        if place >= 0:
            held[place] = (array, line, held[place][2] or is_kept, access)
            return True
        return _put_first(held, (array, line, is_kept, access), self._ways) if is_brought else None


class SecondPlaces(Places):
    """Places with lights, and a pointer that goes over the lines that are hit a first time."""

    def __init__(self, ways):
        Places.__init__(self, ways)
        self._pointer = 0
        self._lights = [False] * ways

    def meet(self, array, line, is_kept, is_brought, access):
        """Do a request."""
        held = self.held
        place = self.place_of(array, line)
        if place >= 0:
            held[place] = (array, line, held[place][2] or is_kept, access)
            self._lights[place] = True
            return True
        if not is_brought:
            return None
        if len(held) < self._ways:
            # Its light is out: it is so at first, and nothing but a hit lights it.
            held.append((array, line, is_kept, access))
            return None
        place = self._pointer
        while self._lights[place]:
            self._lights[place] = False
            place = (place + 1) % self._ways
        thrown = held[place]
        held[place] = (array, line, is_kept, access)
        self._pointer = (place + 1) % self._ways
        return thrown

    def extra(self):
        """Return the pointer and the lights."""
        return (self._pointer, tuple(self._lights))

    def restore_extra(self, extra):
        """Take the pointer and the lights."""
        pointer, lights = extra
        self._pointer = pointer
        self._lights = list(lights)


class TreePlaces(Places):
    """Places with bits that tell the side that comes next."""

    def __init__(self, ways):
        Places.__init__(self, ways)
        # One bit for one pair, three for two pairs: that of the pairs is the first one.
        self._bits = [False] * (ways - 1)

    def meet(self, array, line, is_kept, is_brought, access):
        """Do a request."""
        held = self.held
        place = self.place_of(array, line)
        if place >= 0:
            held[place] = (array, line, held[place][2] or is_kept, access)
            self._turn_from(place)
            return True
        if not is_brought:
            return None
        thrown = None
        if len(held) < self._ways:
            place = len(held)
            held.append((array, line, is_kept, access))
        else:
            place = self._next_place()
            thrown = held[place]
            held[place] = (array, line, is_kept, access)
        self._turn_from(place)
        return thrown

    def _turn_from(self, place):
        """Put the bits on the way to a place so that they tell the other side."""
        if self._ways == 2:
            self._bits[0] = place == 0
        elif self._ways == 4:
            self._bits[0] = place < 2
            self._bits[1 + place // 2] = place % 2 == 0

    def _next_place(self):
        """Return the place that the bits tell."""
        if self._ways == 1:
            return 0
        if self._ways == 2:
            return int(self._bits[0])
        pair = int(self._bits[0])
        return 2 * pair + int(self._bits[1 + pair])

    def extra(self):
        """Return the bits."""
        return tuple(self._bits)

    def restore_extra(self, extra):
        """Take the bits."""
        self._bits = list(extra)


def places_for(rule, ways):
    """Return the empty places of a set with a rule."""
    if rule == "used":
        return UsedPlaces(ways)
    if rule == "brought":
        return BroughtPlaces(ways)
    if rule == "second":
        return SecondPlaces(ways)
    return TreePlaces(ways)


def _put_first(held, line, ways):
    """Put a line ahead of the lines of a set; return the last one if there are more than places, else None."""
    held.insert(0, line)
    return held.pop() if len(held) > ways else None
