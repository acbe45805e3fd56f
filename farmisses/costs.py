"""What tallies and formulas cost."""

from math import lcm

from farmisses.errors import InvalidNumber, InvalidWeights
from farmisses.far import least_above
from farmisses.sizes import Size, is_integer

_WORDS = ("hit", "miss", "crowded", "back")
_GREATEST = 10 ** 30


def cost(cache, tally, weights=None):
    """Return the cost of a tally."""
    weighed = _weighed(cache, weights)
    return sum([many * weighed.get(key[:2], 0) for key, many in tally.items()])


def costs(formula, weights=None):
    """Return the Costs of a formula."""
    return Costs([(1, formula, _weighed(formula.cache, weights))])


def check_weights(cache, weights):
    """Raise InvalidWeights unless any value is weights for a cache."""
    if weights is None:
        return
    if not isinstance(weights, dict):
        raise InvalidWeights(weights)
    for pair, weight in weights.items():
        if not _is_weighed(cache, pair) or not is_integer(weight) or not 0 <= weight <= _GREATEST:
            raise InvalidWeights(weights)


def _is_weighed(cache, value):
    """Return whether any value is a pair (word, level) that may have a weight."""
    if not isinstance(value, tuple) or len(value) != 2:
        return False
    word, level = value
    return isinstance(word, str) and word in _WORDS and is_integer(level) and 0 <= level < len(cache)


def _weighed(cache, weights):
    """Return a dict from pairs (word, level) to weights, all others being 0."""
    check_weights(cache, weights)
    if weights is None:
        return {(word, level): 1 for word in ("miss", "back") for level in range(len(cache))}
    return {pair: weights[pair] for pair in weights}


class Costs:
    """The costs of some formulas, each times a number, for all n.

    terms is a list of tuples (number, formula, weights), the weights a dict with all that do not weigh 0.
    """

    def __init__(self, terms):
        self._terms = terms
        period = 1
        for _, formula, _ in terms:
            period = lcm(period, formula.period)
        self._period = period

    @property
    def period(self):
        """The number of the cases."""
        return self._period

    def __call__(self, n):
        total = 0
        for number, formula, weighed in self._terms:
            tally = formula(n)
            total += number * sum([many * weighed.get(key[:2], 0) for key, many in tally.items()])
        return total

    def __add__(self, other):
        if not isinstance(other, Costs):
            return NotImplemented
        return Costs(self._terms + other._terms)

    def __sub__(self, other):
        if not isinstance(other, Costs):
            return NotImplemented
        return Costs(self._terms + _times(other._terms, -1))

    def __mul__(self, other):
        if not is_integer(other):
            return NotImplemented
        return Costs(_times(self._terms, other))

    def __neg__(self):
        return Costs(_times(self._terms, -1))

    def case(self, rest):
        """Return the pair (least, parts) of a rest."""
        if not is_integer(rest) or rest < 0 or rest >= self._period:
            raise InvalidNumber(rest)
        least = 0
        total = Size()
        for number, formula, weighed in self._terms:
            # With the formula's own period, n = first + formula.period * (begin + step * m).
            begin, first = divmod(rest, formula.period)
            step = self._period // formula.period
            from_there, sizes = formula.case(first)
            least = max(least, -((begin - from_there) // step))
            for key, parts in sizes.items():
                if weighed.get(key[:2], 0) != 0:
                    total = total + Size(parts)(Size((begin, step))) * (number * weighed[key[:2]])
        return (least, total.coefficients)

    def signs(self):
        """Return a list with a pair (n, sign) for each rest: from n on, the cost has this sign."""
        return [self._sign(rest) for rest in range(self._period)]

    def _sign(self, rest):
        """Return the pair (n, sign) of a rest."""
        least, parts = self.case(rest)
        if parts == ():
            return (rest + self._period * least, 0)
        sign = 1 if parts[-1] > 0 else -1
        number = max(least, least_above(tuple([sign * part for part in parts])))
        return (rest + self._period * number, sign)


def _times(terms, number):
    """Return the list of the terms, each times a number."""
    return [(number * times, formula, weighed) for times, formula, weighed in terms]
