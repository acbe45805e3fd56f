"""Counts for great numbers, and what lies in a cache at any time."""

from farmisses.errors import InvalidNumber
from farmisses.plans import accesses_in, plan
from farmisses.ranges import check_fits
from farmisses.sizes import is_integer
from farmisses.ways import NearNumbers, Search


def count(program, cache, n):
    """Return the tally of all accesses."""
    check_fits(program, n)
    way = Search(program, cache, n, NearNumbers())
    way.play_block(way.block)
    return way.memory.tally


def length(program, cache, n):
    """Return the number of the accesses."""
    check_fits(program, n)
    return accesses_in(plan(program, n))


def count_upto(program, cache, n, time):
    """Return the tally of the first accesses, as many as time tells."""
    return _behind(program, cache, n, time).tally


def contents(program, cache, n, time):
    """Return for each level the list of its sets, each a list of tuples (array, line, is_dirty)."""
    names = program.arrays
    return [[[(names[array], line, is_dirty) for array, line, is_dirty, _ in row] for row in rows]
            for rows in _held(_behind(program, cache, n, time))]


def lost(program, cache, n, time):
    """Return the sorted list of the tuples (level, array, line) of all dirty lines."""
    names = program.arrays
    found = []
    for level, rows in enumerate(_held(_behind(program, cache, n, time))):
        for row in rows:
            found.extend([(level, names[array], line) for array, line, is_dirty, _ in row if is_dirty])
    return sorted(found)


def _behind(program, cache, n, time):
    """Return the memory behind the first accesses, as many as time tells."""
    check_fits(program, n)
    way = Search(program, cache, n, NearNumbers())
    if not is_integer(time) or time < 0 or time > accesses_in(way.block):
        raise InvalidNumber(time)
    way.play_upto(way.block, time)
    return way.memory


def _held(memory):
    """Return for each level the list of its sets, each the list of what its places hold."""
    return [[[held for held in places if held is not None] for places, _ in rows] for rows, _ in memory.state]
