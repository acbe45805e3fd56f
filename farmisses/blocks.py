"""Cutting the loops of nests into blocks."""

from farmisses.errors import InvalidBlocks
from farmisses.orders import nest
from farmisses.sizes import is_integer
from farmisses.texts import is_name


def blocked(program, counter, size, outer):
    """Return the nest with the loop of a counter cut into blocks of a size."""
    if not isinstance(counter, str) or counter not in nest(program):
        raise InvalidBlocks(counter)
    if not is_integer(size) or size < 2 or not _goes_into(size, program.body, counter):
        raise InvalidBlocks(size)
    if not is_name(outer) or outer in program or outer in program.counters():
        raise InvalidBlocks(outer)
    return program.replaced(_cut_block(program.body, counter, size, outer))


def cut(program, cutting):
    """Return the nest with all cuts of a cutting done."""
    if not isinstance(cutting, tuple) or not all([_is_triple(triple) for triple in cutting]):
        raise InvalidBlocks(cutting)
    for counter, size, outer in cutting:
        program = blocked(program, counter, size, outer)
    return program


def _is_triple(value):
    """Return whether any value is a tuple of three values."""
    return isinstance(value, tuple) and len(value) == 3


def _goes_into(size, block, counter):
    """Return whether each part of the bound of a counter is a multiple of a size."""
    _, found, parts, inner = block[0]
    if found != counter:
        return _goes_into(size, inner, counter)
    return all([part % size == 0 for part in parts])


def _cut_block(block, counter, size, outer):
    """Return a block with the loop of a counter cut."""
    return tuple([_cut_statement(statement, counter, size, outer) for statement in block])


def _cut_statement(statement, counter, size, outer):
    """Return a statement with the loop of a counter cut."""
    if statement[0] == "flush":
        return statement
    if statement[0] == "for":
        _, found, parts, block = statement
        inner = _cut_block(block, counter, size, outer)
        if found != counter:
            return ("for", found, parts, inner)
        return ("for", outer, tuple([part // size for part in parts]), (("for", counter, (size,), inner),))
    word, array, (parts, factors) = statement
    more = [(outer, tuple([size * part for part in factor])) for found, factor in factors if found == counter]
    return (word, array, (parts, tuple(sorted([*factors, *more]))))
