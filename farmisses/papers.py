"""Papers of counts: the returns that a way takes."""

from farmisses.errors import LimitExceeded
from farmisses.ranges import check_fits
from farmisses.sizes import is_integer
from farmisses.ways import BrokenPaper, Follow, NearNumbers, Search


def paper(program, cache, n):
    """Return a paper of the count that holds."""
    _, entries = counted(program, cache, n)
    return entries


def counted(program, cache, n):
    """Return the pair (tally, paper) of all accesses."""
    check_fits(program, n)
    way = Search(program, cache, n, NearNumbers())
    way.play_block(way.block)
    return (way.memory.tally, tuple(way.entries))


def told_count(program, cache, n, value):
    """Return the tally that a paper shows, None if any value is no paper that holds."""
    way = _way_told(program, cache, n, value)
    return None if way is None else way.memory.tally


def told_steps(program, cache, n, value):
    """Return the number of the steps of a paper, None if any value is no paper that holds."""
    way = _way_told(program, cache, n, value)
    return None if way is None else way.steps


def is_paper(value):
    """Return whether any value is a paper by its form."""
    return isinstance(value, tuple) and all([entry is None or _is_return(entry) for entry in value])


def _is_return(value):
    """Return whether any value is a pair of a round and a number of rounds."""
    if not isinstance(value, tuple) or len(value) != 2:
        return False
    begin, many = value
    return is_integer(begin) and is_integer(many) and begin >= 0 and many >= 1


def _way_told(program, cache, n, value):
    """Return the way of a paper, done; None if any value is no paper that holds."""
    check_fits(program, n)
    if not is_paper(value):
        return None
    way = Follow(program, cache, n, NearNumbers(), value)
    return way if follows(way) else None


def follows(way):
    """Return whether a way can be done to its end, as its paper tells."""
    try:
        way.play_all()
    except (BrokenPaper, LimitExceeded):
        return False
    return True
