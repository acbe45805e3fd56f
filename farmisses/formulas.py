"""Formulas: the counts of a program for all numbers."""

from farmisses.errors import InvalidNumber, LimitExceeded, OutOfRange
from farmisses.far import FarNumbers, parts_of, width_for
from farmisses.papers import follows, is_paper
from farmisses.ranges import check_number, facts, first_outside
from farmisses.sizes import is_integer, value_of
from farmisses.walks import count
from farmisses.ways import Follow, NoCase, Search

_LONGEST_PERIOD = 64


class Formula:
    """The counts of a program with a cache, for all n = rest + period * m.

    cases is a list with a tuple (least, parts, entries) for each rest: from m = least on, the counts
    are the sizes in m with these parts; the entries are the paper of the far way that tells them.
    """

    def __init__(self, program, cache, period, cases):
        self._program = program
        self._cache = cache
        self._period = period
        self._cases = cases

    @property
    def program(self):
        """The program."""
        return self._program

    @property
    def cache(self):
        """The cache."""
        return self._cache

    @property
    def period(self):
        """The number of the cases."""
        return self._period

    def __call__(self, n):
        check_number(n)
        number, rest = divmod(n, self._period)
        least, parts, _ = self._cases[rest]
        if number < least:
            return count(self._program, self._cache, n)
        counts = {key: value_of(sizes, number) for key, sizes in parts.items()}
        return {key: many for key, many in counts.items() if many != 0}

    def case(self, rest):
        """Return the pair (least, parts) of a rest."""
        if not is_integer(rest) or rest < 0 or rest >= self._period:
            raise InvalidNumber(rest)
        least, parts, _ = self._cases[rest]
        return (least, {key: parts[key] for key in parts})

    def paper(self):
        """Return the pair (period, cases) that shows the formula."""
        return (self._period, tuple([(least, entries) for least, _, entries in self._cases]))


def formula(program, cache):
    """Return the formula of a program."""
    _check_far(program)
    for period in range(cache.period, _LONGEST_PERIOD + 1, cache.period):
        cases = _cases_found(program, cache, period)
        if cases is not None:
            return Formula(program, cache, period, cases)
    raise LimitExceeded("cases")


def told_formula(program, cache, value):
    """Return the formula that a paper shows, None if any value is no paper that holds."""
    _check_far(program)
    if not _is_pair(value):
        return None
    period, papers = value
    if not is_integer(period) or not 0 < period <= _LONGEST_PERIOD or period % cache.period != 0:
        return None
    if not isinstance(papers, tuple) or len(papers) != period or not all([_is_case(case) for case in papers]):
        return None
    cases = _cases_told(program, cache, period, papers)
    return None if cases is None else Formula(program, cache, period, cases)


def _is_pair(value):
    """Return whether any value is a pair."""
    return isinstance(value, tuple) and len(value) == 2


def _is_case(value):
    """Return whether any value is a pair (least, paper) by its form."""
    return _is_pair(value) and is_integer(value[0]) and value[0] >= 0 and is_paper(value[1])


def _check_far(program):
    """Raise OutOfRange by the first access that does not lie in its array from some number on.

    The sizes have no remainders, so that they are above or below one another for all great n alike.
    """
    access = first_outside(program, 1 << width_for(program))
    if access is not None:
        raise OutOfRange(access)


def _cases_found(program, cache, period):
    """Return the list of the cases of a period, None if a loop has no return that goes into its rounds."""
    width = width_for(program)
    cases = []
    for rest in range(period):
        n = rest + (period << width)
        numbers = FarNumbers(width, cache.sets_together)
        way = Search(program, cache, n, numbers)
        try:
            way.play_block(way.block)
        except NoCase:
            return None
        cases.append((_least(program, n, numbers), _parts(way.memory.tally, width), tuple(way.entries)))
    return cases


def _cases_told(program, cache, period, papers):
    """Return the list of the cases that papers show, None if one does not hold."""
    width = width_for(program)
    cases = []
    for rest, (least, entries) in enumerate(papers):
        n = rest + (period << width)
        numbers = FarNumbers(width, cache.sets_together)
        way = Follow(program, cache, n, numbers, entries)
        if not follows(way) or least < _least(program, n, numbers):
            return None
        cases.append((least, _parts(way.memory.tally, width), entries))
    return cases


def _least(program, n, numbers):
    """Return the m from which on all comparisons of a way that was done are as they were."""
    for fact in facts(program, n):
        numbers.see_above(fact)
    return numbers.least()


def _parts(tally, width):
    """Return the coefficients of the counts of a far way."""
    return {key: parts_of(many, width) for key, many in tally.items()}
