"""Caches: lines of some cells, and one to three levels that keep them."""

from math import lcm

from farmisses.errors import InvalidCache, InvalidText, TooLarge
from farmisses.sizes import is_integer
from farmisses.tokens import Reader

_RULES = ("used", "brought", "second", "tree")
_WRITES = ("back", "through")
_MOST_CELLS = 8
_MOST_LEVELS = 3
_MOST_SETS = 8
_MOST_WAYS = 4
_LONGEST_PERIOD = 64


def _is_count(value, most):
    """Return whether any value is an integer from 1 to most."""
    return is_integer(value) and 1 <= value <= most


def _is_level(value):
    """Return whether any value is a level."""
    if not isinstance(value, tuple) or len(value) != 4:
        return False
    sets, ways, rule, writes = value
    if not _is_count(sets, _MOST_SETS) or not _is_count(ways, _MOST_WAYS):
        return False
    if not isinstance(rule, str) or not isinstance(writes, str):
        return False
    return rule in _RULES and writes in _WRITES and not (ways == 3 and rule == "tree")


def _check_levels(levels):
    """Raise InvalidCache unless any value is a tuple of one to three levels."""
    if not isinstance(levels, tuple) or not 1 <= len(levels) <= _MOST_LEVELS:
        raise InvalidCache(levels)
    for level in levels:
        if not _is_level(level):
            raise InvalidCache(level)


class Cache:
    """A cache, given by the number of the cells of a line and by its levels."""

    def __init__(self, line, levels):
        if not _is_count(line, _MOST_CELLS):
            raise InvalidCache(line)
        _check_levels(levels)
        together = 1
        for sets, _, _, _ in levels:
            together = lcm(together, sets)
        if together * line > _LONGEST_PERIOD:
            raise TooLarge("period")
        self._line = line
        self._levels = levels
        self._together = together

    @classmethod
    def read(cls, text):
        """Return the cache with a text."""
        if not isinstance(text, str):
            raise InvalidText(text)
        reader = Reader(text)
        reader.pass_only("line")
        line = reader.pass_number()
        levels = []
        while reader.passes("level"):
            sets = reader.pass_number()
            ways = reader.pass_number()
            rule = reader.pass_one(_RULES)
            levels.append((sets, ways, rule, reader.pass_one(_WRITES)))
        reader.pass_end()
        return cls(line, tuple(levels))

    @property
    def line(self):
        """The number of the cells of a line."""
        return self._line

    @property
    def levels(self):
        """The tuple of the levels, the inner one first."""
        return self._levels

    @property
    def sets_together(self):
        """The least common multiple of all numbers of sets."""
        return self._together

    @property
    def period(self):
        """The number of the cells after which each level comes to the same set again."""
        return self._together * self._line

    def show(self):
        """Return the text of the cache."""
        words = ["line", str(self._line)]
        for sets, ways, rule, writes in self._levels:
            words.extend(["level", str(sets), str(ways), rule, writes])
        return " ".join(words)

    def __len__(self):
        return len(self._levels)

    def __eq__(self, other):
        return isinstance(other, Cache) and self._line == other._line and self._levels == other._levels
