"""Playing accesses one by one, on the levels of a cache."""

from farmisses.errors import LimitExceeded
from farmisses.levels import Level
from farmisses.plans import Loop, Touch, bases_of, plan, steps_in, without_idle_loops
from farmisses.players import Player
from farmisses.ranges import check_fits

_MOST_STEPS = 400000


def accesses(program, n):
    """Yield a tuple (access, array, cell) for each access that is made, in order."""
    check_fits(program, n)
    names = program.arrays
    block = plan(program, n)
    for touch, cell in _touches(block, {}):
        yield (touch.number, names[touch.array], cell)


def _touches(block, counters):
    """Yield a pair (touch, index) for each access that a block makes, with these values of the counters."""
    for statement in block:
        if isinstance(statement, Touch):
            yield (statement, statement.index_at(counters))
        elif isinstance(statement, Loop) and statement.many > 0:
            for number in range(statement.rounds):
                inner = {**counters, statement.depth: number}
                yield from _touches(statement.block, inner)


def plain(program, cache, n):
    """Return the tally of a program, each access played."""
    check_fits(program, n)
    block = plan(program, n)
    # Nothing is played where it would not be told, and no rounds are done that change nothing.
    if steps_in(block) > _MOST_STEPS:
        raise LimitExceeded("steps")
    memory = Memory(cache, bases_of(program, cache, n))
    Player(memory, _MOST_STEPS).play_block(without_idle_loops(block))
    return memory.tally


class Memory:
    """The levels of a cache, empty at first, and what was counted at them."""

    def __init__(self, cache, bases):
        self._cache = cache
        self._bases = list(bases)
        self._levels = [Level(level) for level in cache.levels]
        self._played = 0
        self._tally = {}

    @property
    def cache(self):
        """The cache."""
        return self._cache

    @property
    def played(self):
        """The number of the accesses played."""
        return self._played

    @property
    def tally(self):
        """The tally."""
        return {key: self._tally[key] for key in self._tally}

    @property
    def state(self):
        """The tuple with a pair (sets, shadow) for each level."""
        return tuple([level.picture() for level in self._levels])

    def play(self, array, line, is_write, number):
        """Play an access, known by its number, to a line of an array, given by its index."""
        self._played += 1
        self._request(0, array, line, is_write, number)

    def flush(self):
        """Play a flush: empty all levels; each dirty line is written back."""
        for at, level in enumerate(self._levels):
            self._note(("back", at), level.dirty())
            level.empty()

    def put(self, state):
        """Take a state; the tally stays."""
        for level, picture in zip(self._levels, state):
            level.restore(picture)

    def take(self, tally):
        """Put a tally in the place of the own one."""
        self._tally = {key: tally[key] for key in tally}

    def _note(self, key, many):
        """Count so many of something."""
        if many > 0:
            self._tally[key] = self._tally.get(key, 0) + many

    def _request(self, at, array, line, is_write, number):
        """Do a request of an access at a level; behind the last one lies the memory."""
        if at == len(self._levels):
            return
        level = self._levels[at]
        row = level.row(self._bases[array] + line)
        place = row.place_of(array, line)
        was_near = level.was_near(array, line)
        is_kept = is_write and level.keeps_writes
        if place >= 0:
            self._note(("hit", at, number), 1)
            row.hit(place, is_kept, number)
        else:
            self._note(("miss", at, number), 1)
            self._note(("crowded", at, number), int(was_near))
        if is_write and not is_kept:
            self._request(at + 1, array, line, True, number)
        elif place < 0:
            self._request(at + 1, array, line, False, number)
            self._bring(at, row, (array, line, is_kept, number))

    def _bring(self, at, row, held):
        """Bring a line to a level; the one that is thrown out is written back if it is dirty."""
        _, _, _, number = held
        thrown = row.bring(held)
        if thrown is not None:
            array, line, is_dirty, last = thrown
            self._note(("thrown", at, number, last), 1)
            if is_dirty:
                self._note(("back", at), 1)
                self._request(at + 1, array, line, True, number)
