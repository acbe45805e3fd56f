"""Programs: trees whose names and limits are right."""

from farmisses.errors import InvalidTree, TooLarge, UnknownName
from farmisses.ranges import check_number
from farmisses.texts import parse
from farmisses.trees import accesses_of, check_names, counters_of, excess, fixed_tree, is_tree


class Program:
    """A program, given by its tree."""

    def __init__(self, tree):
        if not is_tree(tree):
            raise InvalidTree(tree)
        word = excess(tree)
        if word is not None:
            raise TooLarge(word)
        check_names(tree)
        self._tree = tree
        arrays, block = tree
        self._sizes = {name: parts for name, parts in arrays}
        self._accesses = tuple(accesses_of(block))

    @classmethod
    def read(cls, text):
        """Return the program with a text."""
        return cls(parse(text))

    @property
    def arrays(self):
        """The tuple of the names of the arrays."""
        return tuple(self._sizes)

    @property
    def body(self):
        """The block."""
        return self._tree[1]

    @property
    def accesses(self):
        """The tuple of the statements that are accesses, in the order of the text."""
        return self._accesses

    def tree(self):
        """Return the tree."""
        return self._tree

    def size_of(self, array):
        """Return the parts of the length of an array."""
        if array not in self:
            raise UnknownName(array)
        return self._sizes[array]

    def counters(self):
        """Return the list of the counters of all loops, in the order of the text."""
        return counters_of(self._tree[1])

    def __len__(self):
        return len(self._accesses)

    def __contains__(self, x):
        return isinstance(x, str) and x in self._sizes

    def __eq__(self, other):
        return isinstance(other, Program) and self._tree == other._tree

    def replaced(self, block):
        """Return the program with the same arrays and another block."""
        return Program((self._tree[0], block))

    def fixed(self, n):
        """Return the program with the value for n in place of each size."""
        check_number(n)
        return Program(fixed_tree(self._tree, n))
