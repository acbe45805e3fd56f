"""The errors of the package; each field is called as its parameter and holds the argument."""


class FarError(ValueError):
    """What all errors of wrong arguments and texts have in common."""


class InvalidText(FarError):
    """A value that is not a text, or not the text that is asked for."""

    def __init__(self, value):
        self.value = value


class InvalidSyntax(FarError):
    """A text with something that cannot stand at this position."""

    def __init__(self, position):
        self.position = position


class InvalidTree(FarError):
    """A value that is not the tree of a program."""

    def __init__(self, value):
        self.value = value


class DuplicateName(FarError):
    """A name that is given to a second array or counter."""

    def __init__(self, name):
        self.name = name


class UnknownName(FarError):
    """A name that nothing has."""

    def __init__(self, name):
        self.name = name


class TooLarge(FarError):
    """Something, told by the word, that is above its limit."""

    def __init__(self, word):
        self.word = word


class TooMany(FarError):
    """More things, told by the word, than are taken."""

    def __init__(self, word):
        self.word = word


class InvalidNumber(FarError):
    """A value that is not one of the numbers that are asked for."""

    def __init__(self, value):
        self.value = value


class InvalidCache(FarError):
    """A value of which no cache can be made."""

    def __init__(self, value):
        self.value = value


class OutOfRange(FarError):
    """An access, told by its number, that does not lie in its array."""

    def __init__(self, access):
        self.access = access


class InvalidOrder(FarError):
    """A value that is no order of the loops of a nest."""

    def __init__(self, value):
        self.value = value


class InvalidBlocks(FarError):
    """A value by which no loop can be cut into blocks."""

    def __init__(self, value):
        self.value = value


class Uneven(FarError):
    """An array, told by its name, whose accesses have different factors."""

    def __init__(self, name):
        self.name = name


class InvalidWeights(FarError):
    """A value that is no weights for a cache."""

    def __init__(self, value):
        self.value = value


class InvalidEvent(FarError):
    """A value that is no event, or an event that cannot be performed."""

    def __init__(self, value):
        self.value = value


class InvalidQuestion(FarError):
    """A question with something that cannot stand at this position."""

    def __init__(self, position):
        self.position = position


class InvalidCommand(FarError):
    """A command that the console does not have, told by its first word."""

    def __init__(self, word):
        self.word = word


class LimitExceeded(RuntimeError):
    """More work, told by the word, than is done; the arguments are not wrong."""

    def __init__(self, word):
        self.word = word
