"""Whole numbers in given spans whose sum, each times its factor, is a given number."""

from math import gcd

from farmisses.errors import LimitExceeded

# With at most 5000 rounds, fewer than 30000 are tried, and where each factor is as great as those
# that are not greater can make together, at most three at each of five terms.
_MOST_TRIED = 100000


class Term:
    """A factor above 0 with its span, and what the terms behind it can make together."""

    def __init__(self, factor, least, greatest, behind):
        self.factor = factor
        self.low = least
        self.high = greatest
        self.rest_low = sum([term.factor * term.low for term in behind])
        self.rest_high = sum([term.factor * term.high for term in behind])
        unit = 0
        for term in behind:
            unit = gcd(unit, term.factor)
        self.common = gcd(factor, unit)
        # Values this far apart leave the same remainder to the terms behind.
        self.stride = max(1, unit // self.common)
        self.inverse = _inverse(factor // self.common, self.stride)

    def fitting(self, target):
        """Return the pair (first, many) of the values that may leave the terms behind what they can make."""
        if target % self.common != 0:
            return (0, 0)
        first = max(self.low, -((self.rest_high - target) // self.factor))
        last = min(self.high, (target - self.rest_low) // self.factor)
        first += (target // self.common * self.inverse - first) % self.stride
        return (first, max(0, (last - first) // self.stride + 1))


class Sums:
    """The sums that values in spans make, each times its factor.

    terms is a list of triples (factor, least, greatest), one for each value.
    """

    def __init__(self, terms):
        self._is_empty = any([least > greatest for _, least, greatest in terms])
        # Where the factor is 0, or the span has one number, there is nothing to look for.
        self._settled = [min(max(0, least), greatest) for _, least, greatest in terms]
        self._base = 0
        self._signs = [factor for factor, _, _ in terms]
        places = []
        for at, (factor, least, greatest) in enumerate(terms):
            if factor == 0 or least == greatest:
                self._base += factor * self._settled[at]
            else:
                places.append((abs(factor), at))
        # The greatest factor comes first: it leaves the fewest values.
        self._places = [at for _, at in sorted(places, reverse=True)]
        self._terms = []
        for at in reversed(self._places):
            factor, least, greatest = _upright(terms[at])
            self._terms.insert(0, Term(factor, least, greatest, self._terms))
        self._tried = 0

    def values_for(self, target):
        """Return a list of values that make a sum, None if there are none."""
        if self._is_empty:
            return None
        self._tried = 0
        found = self._found(0, target - self._base)
        if found is None:
            return None
        values = list(self._settled)
        for at, value in zip(self._places, found):
            values[at] = value if self._signs[at] > 0 else -value
        return values

    def _found(self, at, target):
        """Return the list of values of the terms from one on that make a number, None if there are none."""
        if at == len(self._terms):
            return [] if target == 0 else None
        term = self._terms[at]
        first, many = term.fitting(target)
        for number in range(many):
            self._tried += 1
            if self._tried > _MOST_TRIED:
                raise LimitExceeded("differences")
            value = first + term.stride * _outward(number, many)
            values = self._found(at + 1, target - term.factor * value)
            if values is not None:
                return [value] + values
        return None


def _upright(term):
    """Return a term with the factor above 0 that makes the same numbers."""
    factor, least, greatest = term
    return term if factor > 0 else (-factor, -greatest, -least)


def _outward(number, many):
    """Return one of so many indexes, those in the middle first: there the terms behind have most room."""
    half = (number + 1) // 2
    return many // 2 + (half if number % 2 == 0 else -half)


def _inverse(number, modulus):
    """Return the number by which another one without common factors is to be multiplied to give 1."""
    one, other = 1, 0
    rest, more = number % modulus, modulus
    while rest > 1:
        quotient = more // rest
        one, other = other - quotient * one, one
        rest, more = more - quotient * rest, rest
    return one % modulus
