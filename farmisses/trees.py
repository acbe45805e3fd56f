"""Trees of programs: what is one, what is in it, and what is wrong with it."""

from farmisses.errors import DuplicateName, UnknownName
from farmisses.sizes import is_integer, value_of
from farmisses.texts import is_name
from farmisses.tokens import has_few_digits

_DEEPEST = 30
_MOST_PARTS = 4
_MOST_ARRAYS = 8
_MOST_STATEMENTS = 40
_MOST_ACCESSES = 20
_MOST_LOOPS = 5


def is_tree(value):
    """Return whether any value is a tree, with loops at most thirty deep."""
    if not _is_tuple_of(value, 2):
        return False
    arrays, block = value
    if not isinstance(arrays, tuple) or not all([_is_named(pair) for pair in arrays]):
        return False
    return _is_block(block, 0)


def _is_tuple_of(value, many):
    """Return whether any value is a tuple of so many values."""
    return isinstance(value, tuple) and len(value) == many


def _is_named(value):
    """Return whether any value is a pair (name, parts)."""
    return _is_tuple_of(value, 2) and is_name(value[0]) and _is_parts(value[1])


def _is_parts(value):
    """Return whether any value is the parts of a size."""
    if not isinstance(value, tuple) or not all([is_integer(part) for part in value]):
        return False
    return value == () or value[-1] != 0


def _is_block(value, loops):
    """Return whether any value is a block inside so many loops."""
    return isinstance(value, tuple) and all([_is_statement(part, loops) for part in value])


def _is_statement(value, loops):
    """Return whether any value is a statement inside so many loops."""
    if not isinstance(value, tuple) or value == () or not isinstance(value[0], str):
        return False
    if value[0] == "flush":
        return len(value) == 1
    if value[0] == "for":
        # What stands deeper is not looked at, so that no value is too deep to be looked through.
        return len(value) == 4 and loops < _DEEPEST and _is_named(value[1:3]) and _is_block(value[3], loops + 1)
    return value[0] in ("read", "write") and len(value) == 3 and is_name(value[1]) and _is_index(value[2])


def _is_index(value):
    """Return whether any value is an index."""
    if not _is_tuple_of(value, 2) or not _is_parts(value[0]) or not isinstance(value[1], tuple):
        return False
    if not all([_is_named(pair) and pair[1] != () for pair in value[1]]):
        return False
    counters = [counter for counter, _ in value[1]]
    return counters == sorted(set(counters))


def statements_of(block):
    """Return the list of all statements of a block, those inside others too, in the order of the text."""
    found = []
    for statement in block:
        found.append(statement)
        if statement[0] == "for":
            found.extend(statements_of(statement[3]))
    return found


def accesses_of(block):
    """Return the list of the accesses of a block, in the order of the text."""
    return [statement for statement in statements_of(block) if statement[0] in ("read", "write")]


def counters_of(block):
    """Return the list of the counters of all loops of a block, in the order of the text."""
    return [statement[1] for statement in statements_of(block) if statement[0] == "for"]


def excess(tree):
    """Return the word of the first limit that a tree exceeds, None if it exceeds none."""
    arrays, block = tree
    statements = statements_of(block)
    sizes = sizes_of(tree)
    if any([not has_few_digits(part) for parts in sizes for part in parts]):
        return "numbers"
    if any([len(parts) > _MOST_PARTS for parts in sizes]):
        return "degree"
    if len(arrays) > _MOST_ARRAYS:
        return "arrays"
    if len(statements) > _MOST_STATEMENTS:
        return "statements"
    if len(accesses_of(block)) > _MOST_ACCESSES:
        return "accesses"
    if _depth(block) > _MOST_LOOPS:
        return "nesting"
    return None


def sizes_of(tree):
    """Return the list of the parts of all sizes in a tree."""
    arrays, block = tree
    sizes = [parts for _, parts in arrays]
    for statement in statements_of(block):
        if statement[0] == "for":
            sizes.append(statement[2])
        elif statement[0] != "flush":
            parts, factors = statement[2]
            sizes.append(parts)
            sizes.extend([factor for _, factor in factors])
    return sizes


def _depth(block):
    """Return how many loops stand inside one another in a block, at most."""
    return max([0] + [1 + _depth(statement[3]) for statement in block if statement[0] == "for"])


def check_names(tree):
    """Raise DuplicateName or UnknownName by the first name of a tree that cannot stand where it stands."""
    arrays, block = tree
    names = []
    for name, _ in arrays:
        if name in names:
            raise DuplicateName(name)
        names.append(name)
    _check_block(block, names, [])


def _check_block(block, names, counters):
    """Check the names in a block, inside loops with these counters."""
    for statement in block:
        if statement[0] == "for":
            counter = statement[1]
            if counter in names or counter in counters:
                raise DuplicateName(counter)
            _check_block(statement[3], names, counters + [counter])
        elif statement[0] != "flush":
            _, array, (_, factors) = statement
            if array not in names:
                raise UnknownName(array)
            for counter, _ in factors:
                if counter not in counters:
                    raise UnknownName(counter)


def fixed_tree(tree, n):
    """Return the tree with the value for n in place of each size."""
    arrays, block = tree
    return (tuple([(name, _fixed(parts, n)) for name, parts in arrays]), _fixed_block(block, n))


def _fixed(parts, n):
    """Return the parts of the value of a size."""
    value = value_of(parts, n)
    return (value,) if value != 0 else ()


def _fixed_block(block, n):
    """Return a block with the value for n in place of each size."""
    return tuple([_fixed_statement(statement, n) for statement in block])


def _fixed_statement(statement, n):
    """Return a statement with the value for n in place of each size."""
    if statement[0] == "flush":
        return statement
    if statement[0] == "for":
        _, counter, parts, block = statement
        return ("for", counter, _fixed(parts, n), _fixed_block(block, n))
    word, array, (parts, factors) = statement
    fixed = [(counter, _fixed(factor, n)) for counter, factor in factors]
    # A factor that is 0 for n does not stand in an index.
    return (word, array, (_fixed(parts, n), tuple([pair for pair in fixed if pair[1] != ()])))
