"""Questions about the rows of a tally."""

from farmisses.errors import InvalidQuestion, InvalidSyntax, InvalidText, TooLarge, UnknownName
from farmisses.texts import is_name
from farmisses.tokens import Reader
from farmisses.walks import count

_KINDS = ("hit", "miss", "crowded", "back", "thrown")
_FIELDS = ("kind", "level", "access", "other", "array", "word")
_NUMBERS = ("level", "access", "other")
_WORDS = ("read", "write")
_QUESTIONS = ("some", "no", "count", "sum", "every")
_MOST_DEPTH = 30


class Condition:
    """A condition, given by the tuple of its parts."""

    def __init__(self, parts):
        self._parts = parts

    def parts(self):
        """Return the tuple of the parts: a word or a field first, then values or conditions."""
        return self._parts

    def __call__(self, row):
        word = self._parts[0]
        if word == "any":
            return True
        one = self._parts[1]
        if word == "not":
            return not one(row)
        if word == "and":
            other = self._parts[2]
            return one(row) and other(row)
        if word == "or":
            other = self._parts[2]
            return one(row) or other(row)
        return row[_FIELDS.index(word)] == one

    def __and__(self, other):
        if not isinstance(other, Condition):
            return NotImplemented
        return Condition(("and", self, other))

    def __or__(self, other):
        if not isinstance(other, Condition):
            return NotImplemented
        return Condition(("or", self, other))

    def __invert__(self):
        return Condition(("not", self))

    def __eq__(self, other):
        return isinstance(other, Condition) and self._parts == other._parts


def where(**wanted):
    """Return the condition that all these fields have these values."""
    found = None
    for word, value in wanted.items():
        if word not in _FIELDS:
            raise UnknownName(word)
        one = Condition((word, value))
        found = one if found is None else found & one
    return Condition(("any",)) if found is None else found


def read_condition(text):
    """Return the condition with a text."""
    if not isinstance(text, str):
        raise InvalidText(text)
    reader = Reader(text)
    try:
        found = _condition(reader, 0)
        reader.pass_end()
    except InvalidSyntax as wrong:
        raise InvalidQuestion(wrong.position) from None
    return found


def rows_of(program, cache, n):
    """Return the list of the rows of the tally."""
    tally = count(program, cache, n)
    rows = []
    for kind in _KINDS:
        for key in sorted([one for one in tally if one[0] == kind]):
            rows.append(_row(program, key, tally[key]))
    return rows


def selected(program, cache, n, condition):
    """Yield the rows for which a condition, or any function of a row, holds."""
    rows = rows_of(program, cache, n)
    for row in rows:
        if condition(row):
            yield row


def ask(program, cache, n, text):
    """Return the answer to a question."""
    word, one, other = _read_question(text)
    for name in _arrays_in(one) + _arrays_in(other):
        if name not in program:
            raise UnknownName(name)
    found = [row for row in rows_of(program, cache, n) if one(row)]
    if word == "some":
        return found != []
    if word == "no":
        return found == []
    if word == "count":
        return len(found)
    if word == "sum":
        return sum([row[-1] for row in found])
    return all([other(row) for row in found])


def _row(program, key, number):
    """Return the row of a key of the tally."""
    kind, level, *numbers = key
    access, other = (numbers + [None, None])[:2]
    if access is None:
        return (kind, level, None, None, None, None, number)
    word, array, _ = program.accesses[access]
    return (kind, level, access, other, array, word, number)


def _read_question(text):
    """Return the word of a question and its two conditions; the second one is any, if it has none."""
    if not isinstance(text, str):
        raise InvalidText(text)
    reader = Reader(text)
    other = Condition(("any",))
    try:
        word = reader.pass_one(_QUESTIONS)
        one = _condition(reader, 0)
        if word == "every":
            reader.pass_only("then")
            other = _condition(reader, 0)
        reader.pass_end()
    except InvalidSyntax as wrong:
        raise InvalidQuestion(wrong.position) from None
    return (word, one, other)


def _condition(reader, depth):
    """Read a COND inside so many ONEs and return it."""
    found = _both(reader, depth)
    while reader.passes("or"):
        found = found | _both(reader, depth)
    return found


def _both(reader, depth):
    """Read a BOTH inside so many ONEs and return it."""
    found = _one(reader, depth)
    while reader.passes("and"):
        found = found & _one(reader, depth)
    return found


def _one(reader, depth):
    """Read a ONE inside so many others and return it."""
    if depth > _MOST_DEPTH:
        raise TooLarge("nesting")
    if reader.passes("not"):
        return ~_one(reader, depth + 1)
    if reader.passes("("):
        found = _condition(reader, depth + 1)
        reader.pass_only(")")
        return found
    if reader.passes("any"):
        return Condition(("any",))
    word = reader.pass_one(_FIELDS)
    return Condition((word, _value(reader, word)))


def _value(reader, field):
    """Read what stands behind the name of a field and return it."""
    if field in _NUMBERS:
        return reader.pass_number()
    if field == "kind":
        return reader.pass_one(_KINDS)
    if field == "word":
        return reader.pass_one(_WORDS)
    if not is_name(reader.token()):
        raise InvalidSyntax(reader.place())
    return reader.pass_any()


def _arrays_in(condition):
    """Return the list of the names of arrays in a condition, in the order of the text."""
    word, *others = condition.parts()
    if word == "array":
        return others
    if word in ("not", "and", "or"):
        return [name for part in others for name in _arrays_in(part)]
    return []
