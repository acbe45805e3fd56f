"""Sizes: polynomials in one number n with integer coefficients."""


def is_integer(value):
    """Return whether any value is an integer; True and False are none."""
    return isinstance(value, int) and not isinstance(value, bool)


def value_of(parts, n):
    """Return the value, for an integer, of the size with these parts."""
    value = 0
    for part in reversed(parts):
        value = value * n + part
    return value


def _trimmed(parts):
    """Return the parts as a tuple without the zeros at the end."""
    many = len(parts)
    while many > 0 and parts[many - 1] == 0:
        many -= 1
    return tuple(parts[:many])


def _sum(one, other):
    """Return the parts of the sum of two sizes, given by their parts."""
    many = max(len(one), len(other))
    parts = [0] * many
    for power, part in enumerate(one):
        parts[power] = part
    for power, part in enumerate(other):
        parts[power] = parts[power] + part
    return tuple(parts)


def _product(one, other):
    """Return the parts of the product of two sizes, given by their parts."""
    many = len(one) + len(other)
    parts = [0] * many
    for power, part in enumerate(one):
        for more, factor in enumerate(other):
            parts[power + more] = parts[power + more] + part * factor
    return tuple(parts)


def _negative(parts):
    """Return the parts of the negative of a size, given by its parts."""
    return tuple([-part for part in parts])


def _is_operand(value):
    """Return whether any value may stand on the right of a sign."""
    return isinstance(value, Size) or is_integer(value)


def _parts_of(operand):
    """Return the parts of a size or of an integer."""
    if isinstance(operand, Size):
        return operand.coefficients
    return (operand,)


class Size:
    """A sum of multiples of powers of n; parts[k] belongs to the power k."""

    def __init__(self, parts=()):
        self._parts = _trimmed(parts)

    @property
    def coefficients(self):
        """The tuple of the coefficients, without zeros at the end."""
        return self._parts

    @property
    def degree(self):
        """The greatest power, 0 if there is none."""
        return max(0, len(self._parts) - 1)

    def __add__(self, other):
        if not _is_operand(other):
            return NotImplemented
        return Size(_sum(self._parts, _parts_of(other)))

    def __sub__(self, other):
        if not _is_operand(other):
            return NotImplemented
        return Size(_sum(self._parts, _negative(_parts_of(other))))

    def __mul__(self, other):
        if not _is_operand(other):
            return NotImplemented
        return Size(_product(self._parts, _parts_of(other)))

    def __neg__(self):
        return Size(_negative(self._parts))

    def __call__(self, n):
        # A size in place of n gives a size, also where no part is left to say so.
        value = Size() if isinstance(n, Size) else 0
        for part in reversed(self._parts):
            value = value * n + part
        return value

    def __eq__(self, other):
        return isinstance(other, Size) and self._parts == other._parts
