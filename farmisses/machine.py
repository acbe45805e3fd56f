"""Playing accesses one by one, on the levels of a cache."""

from farmisses.errors import LimitExceeded
from farmisses.levels import Level
from farmisses.plans import Loop, Touch, bases_of, plan, steps_in, without_idle_loops
from farmisses.players import Player
from farmisses.ranges import check_fits

_MOST_STEPS = 400000


def accesses(program, n):
    """Yield a tuple (access, array, cell) for each access that is made, in order."""
    check_fits(program, n)
    names = program.arrays
    block = plan(program, n)
    for touch, cell in _touches(block, {}):
        yield (touch.number, names[touch.array], cell)


def _touches(block, counters):
    """Yield a pair (touch, index) for each access that a block makes, with these values of the counters."""
    for statement in block:
        if isinstance(statement, Touch):
            yield (statement, statement.index_at(counters))
        elif isinstance(statement, Loop) and statement.many > 0:
            for number in range(statement.rounds):
                inner = {**counters, statement.depth: number}
                yield from _touches(statement.block, inner)


def plain(program, cache, n):
    """Return the tally of a program, each access played."""
    check_fits(program, n)
    block = plan(program, n)
    # Nothing is played where it would not be told, and no rounds are done that change nothing.
    if steps_in(block) > _MOST_STEPS:
        raise LimitExceeded("steps")
    memory = Memory(cache, bases_of(program, cache, n))
    Player(memory, _MOST_STEPS).play_block(without_idle_loops(block))
    return memory.tally


class Memory:
    """The levels of a cache, empty at first, and what was counted at them."""

    def __init__(self, cache, bases):
        self._cache = cache
        self._bases = list(bases)
        self._levels = [Level(level) for level in cache.levels]
        self._last = len(cache) - 1
        self._played = 0
        self._tally = {}
        # Whether each request is to be told to see_request.
        self._is_watched = False

    @property
    def cache(self):
        """The cache."""
        return self._cache

    @property
    def played(self):
        """The number of the accesses played."""
        return self._played

    @property
    def tally(self):
        """The tally."""
        return {key: self._tally[key] for key in self._tally}

    @property
    def state(self):
        """The tuple with a pair (sets, shadow) for each level."""
        return tuple([level.picture() for level in self._levels])

    def play(self, array, line, is_write, number):
        """Play an access, known by its number, to a line of an array, given by its index."""
        self._played += 1
        self.request(0, array, line, is_write, number)

    def flush(self):
        """Play a flush: empty all levels; each dirty line is written back."""
        for at, level in enumerate(self._levels):
            self._note(("back", at), level.dirty())
            level.empty()

    def kept(self):
        """Return what pairs_with and go_on need of what stands in the levels now."""
        return [level.kept() for level in self._levels]

    def pairs_with(self, kept, moves, times):
        """Return the list of (array, line, line now) for what was kept, None if it cannot be related."""
        pairs = []
        for level, part in zip(self._levels, kept):
            found = level.pairs_with(part, moves, times)
            if found is None:
                return None
            pairs.extend(found)
        return pairs

    def go_on(self, kept, tally, times):
        """Do as often more as times tells what was done since something was kept, and what was counted then."""
        for level, part in zip(self._levels, kept):
            level.go_on(part, times)
        self._tally = {key: many + times * (many - tally.get(key, 0)) for key, many in self._tally.items()}

    def put(self, state):
        """Take a state; the tally stays."""
        for level, picture in zip(self._levels, state):
            level.restore(picture)

    def take(self, tally):
        """Put a tally in the place of the own one."""
        self._tally = {key: tally[key] for key in tally}

    def _note(self, key, many):
        """Count so many of something."""
        if many > 0:
            self._tally[key] = self._tally.get(key, 0) + many

    def see_request(self, at, array, line, row):
        """Note a request for a line at a level, ahead of it; row is the set of the line, None if this is empty."""

    def request(self, at, array, line, is_write, number):
        """Do a request of an access at a level; at level 0 this is the access itself, but it is not counted."""
        level = self._levels[at]
        place = (self._bases[array] + line) % level.many
        row = level.rows.get(place)
        if self._is_watched:
            self.see_request(at, array, line, row)
        wanted = (array, line)
        shadow = level.shadow
        was_near = shadow.pop(wanted, False)
        if not was_near and len(shadow) == level.most:
            del shadow[next(iter(shadow), None)]
        shadow[wanted] = True
        is_kept = is_write and level.keeps_writes
        # What is not kept here is a write at the next level, and brings nothing.
        goes_on = is_write and not is_kept
        if row is None and not goes_on:
            row = level.begun_row(place)
        met = None if row is None else row.meet(array, line, is_kept, not goes_on, number)
        tally = self._tally
        if met is True:
            key = ("hit", at, number)
            tally[key] = tally.get(key, 0) + 1
            if goes_on and at < self._last:
                self.request(at + 1, array, line, True, number)
            return
        key = ("miss", at, number)
        tally[key] = tally.get(key, 0) + 1
        if was_near:
            self._note(("crowded", at, number), 1)
        # Behind the last level lies the memory, which takes every request.
        if at < self._last:
            self.request(at + 1, array, line, goes_on, number)
        if met is not None:
            self._throw(at, met, number)

    def _throw(self, at, thrown, number):
        """Note that an access throws a line out of a level; the line is written back if it is dirty."""
        array, line, is_dirty, last = thrown
        key = ("thrown", at, number, last)
        self._tally[key] = self._tally.get(key, 0) + 1
        if is_dirty:
            self._note(("back", at), 1)
            if at < self._last:
                self.request(at + 1, array, line, True, number)
