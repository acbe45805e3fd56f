"""The legal order of the loops, and the blocks, that cost least."""

from math import factorial

from farmisses.blocks import cut
from farmisses.clashes import Judge
from farmisses.costs import check_weights, cost
from farmisses.errors import InvalidBlocks, LimitExceeded, TooMany
from farmisses.orders import nest, permutations, reordered
from farmisses.papers import paper, told_count
from farmisses.ranges import check_fits
from farmisses.walks import count

_MOST_CHOICES = 120


class Case:
    """A choice with what it is about: the nest that is so cut, and what judges the orders of this one."""

    def __init__(self, choice, made, judge):
        self.choice = choice
        self.made = made
        self._judge = judge

    def ordered(self):
        """Return the nest in the order of the choice."""
        return reordered(self.made, self.choice[1])

    def clash(self):
        """Return a clash of the order, None if it is legal."""
        return self._judge.clash_in(self.choice[1])

    def is_clash(self, value):
        """Return whether any value is a clash of the order."""
        return self._judge.is_clash(self.choice[1], value)


def choices(program, cuttings=((),)):
    """Yield all choices, in order."""
    nests = _nests(program, cuttings)
    for index, made in enumerate(nests):
        counters = nest(made)
        for order in permutations(counters):
            yield (index, order)


def variant(program, choice, cuttings=((),)):
    """Return the nest of a choice."""
    index, order = choice
    return reordered(cut(program, cuttings[index]), order)


def best(program, cache, n, cuttings=((),), *, weights=None):
    """Return the pair (cost, choice) of the first choice of least cost among the legal ones."""
    cases = _cases(program, cache, n, cuttings, weights)
    legal = [case for case in cases if case.clash() is None]
    return _least([(cost(cache, count(case.ordered(), cache, n), weights), case.choice) for case in legal])


def best_paper(program, cache, n, cuttings=((),), *, weights=None):
    """Return the paper that shows which choice is the best one."""
    cases = _cases(program, cache, n, cuttings, weights)
    clashes = [case.clash() for case in cases]
    return tuple([("count", paper(case.ordered(), cache, n)) if found is None else ("clash", found)
                  for case, found in zip(cases, clashes)])


def told_best(program, cache, n, value, cuttings=((),), *, weights=None):
    """Return the pair (cost, choice) that a paper shows, None if any value is no paper that holds."""
    cases = _cases(program, cache, n, cuttings, weights)
    if not isinstance(value, tuple) or len(value) != len(cases) or not all([_is_pair(pair) for pair in value]):
        return None
    shown = []
    for case, (word, told) in zip(cases, value):
        if word == "clash":
            if not case.is_clash(told):
                return None
        else:
            if not _is_legal(case):
                return None
            tally = told_count(case.ordered(), cache, n, told)
            if tally is None:
                return None
            shown.append((cost(cache, tally, weights), case.choice))
    return _least(shown)


def _nests(program, cuttings):
    """Return the list of the nests that are so cut; raise TooMany if they have too many orders."""
    if not isinstance(cuttings, tuple) or cuttings == ():
        raise InvalidBlocks(cuttings)
    nests = [cut(program, cutting) for cutting in cuttings]
    if sum([factorial(len(nest(made))) for made in nests]) > _MOST_CHOICES:
        raise TooMany("choices")
    return nests


def _cases(program, cache, n, cuttings, weights):
    """Return the list of the cases of all choices; raise by what is wrong with the arguments."""
    check_fits(program, n)
    nests = _nests(program, cuttings)
    check_weights(cache, weights)
    cases = []
    for index, made in enumerate(nests):
        counters = nest(made)
        judge = Judge(made, n, counters)
        judge.check_even()
        for order in permutations(counters):
            cases.append(Case((index, order), made, judge))
    return cases


def _least(found):
    """Return the first one of the pairs (cost, choice) whose cost is least."""
    least = found[0]
    for pair in found:
        if pair[0] < least[0]:
            least = pair
    return least


def _is_pair(value):
    """Return whether any value is a pair that tells a clash or a count."""
    if not isinstance(value, tuple) or len(value) != 2:
        return False
    return isinstance(value[0], str) and value[0] in ("clash", "count")


def _is_legal(case):
    """Return whether it can be told that the order of a case is legal."""
    try:
        return case.clash() is None
    except LimitExceeded:
        return False
