"""Reading the texts of programs into trees."""

from farmisses.errors import InvalidSyntax, InvalidText, TooLarge
from farmisses.sizes import Size
from farmisses.tokens import Reader, is_number, is_word

_KEYWORDS = ("array", "for", "read", "write", "flush", "n")
_STATEMENTS = ("for", "read", "write", "flush")
_MOST_POWER = 3
_MOST_LOOPS = 5


def is_name(value):
    """Return whether any value is a NAME: a word that is no keyword."""
    return isinstance(value, str) and is_word(value) and value not in _KEYWORDS


def parse(text):
    """Return the tree of the text of a program, whatever its names are."""
    reader = _reader(text)
    arrays = []
    while reader.passes("array"):
        name = _name(reader)
        arrays.append((name, _size(reader)))
    block = _block(reader, 0)
    reader.pass_end()
    return (tuple(arrays), block)


def parse_size(text):
    """Return the parts of the text of a size."""
    reader = _reader(text)
    parts = _size(reader)
    reader.pass_end()
    return parts


def parse_block(text):
    """Return the block of the text of a block."""
    reader = _reader(text)
    block = _block(reader, 0)
    reader.pass_end()
    return block


def _reader(text):
    """Return a reader of a text; any other value is refused."""
    if not isinstance(text, str):
        raise InvalidText(text)
    return Reader(text)


def _name(reader):
    """Read a NAME and return it."""
    if not is_name(reader.token()):
        raise InvalidSyntax(reader.place())
    return reader.pass_any()


def _block(reader, loops):
    """Read a BLOCK inside so many loops and return it."""
    block = []
    while reader.token() in _STATEMENTS:
        block.append(_statement(reader, loops))
    return tuple(block)


def _statement(reader, loops):
    """Read a STATEMENT inside so many loops and return it."""
    word = reader.pass_any()
    if word == "flush":
        return (word,)
    if word == "for":
        return _loop(reader, loops)
    array = _name(reader)
    reader.pass_only("[")
    index = _index(reader)
    reader.pass_only("]")
    return (word, array, index)


def _loop(reader, loops):
    """Read what stands behind the word for, inside so many loops, and return the statement."""
    counter = _name(reader)
    parts = _size(reader)
    if reader.token() == "{" and loops >= _MOST_LOOPS:
        raise TooLarge("nesting")
    reader.pass_only("{")
    block = _block(reader, loops + 1)
    reader.pass_only("}")
    return ("for", counter, parts, block)


def _size(reader):
    """Read a SIZE and return its parts."""
    return _sums(reader, False)[""].coefficients


def _index(reader):
    """Read an INDEX and return it."""
    sums = _sums(reader, True)
    factors = []
    for counter in sorted(list(sums)):
        parts = sums[counter].coefficients
        if counter != "" and parts != ():
            factors.append((counter, parts))
    return (sums[""].coefficients, tuple(factors))


def _sums(reader, in_index):
    """Read a sum and return a dict with the size that stands with each counter, "" for none."""
    sums = {"": Size()}
    sign = -1 if reader.passes("-") else 1
    goes_on = True
    while goes_on:
        number, power, counter = _part(reader, in_index)
        size = Size((0,) * power + (sign * number,))
        sums[counter] = sums.get(counter, Size()) + size
        goes_on = reader.token() in ("+", "-")
        if goes_on:
            sign = -1 if reader.pass_any() == "-" else 1
    return sums


def _part(reader, in_index):
    """Read a part of a sum and return its number, its power and its counter, "" for none."""
    number = 1
    power = 0
    counter = ""
    goes_on = True
    if is_number(reader.token()):
        number = reader.pass_number()
        goes_on = reader.passes("*")
    while goes_on:
        if reader.passes("n"):
            power += 1
        elif in_index:
            counter = _name(reader)
        else:
            raise InvalidSyntax(reader.place())
        # A counter is the last in its part, so no sign may join anything to it.
        goes_on = counter == "" and reader.passes("*")
    # Only here is the part read to its end; what cannot stand in it is told first.
    if power > _MOST_POWER:
        raise TooLarge("degree")
    return (number, power, counter)
