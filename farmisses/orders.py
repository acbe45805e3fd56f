"""Orders of the loops of a nest, and which of them are legal."""

from farmisses.clashes import Judge
from farmisses.errors import InvalidOrder
from farmisses.ranges import check_fits


def nest(program):
    """Return the tuple of the counters of a nest, () for other programs."""
    counters = []
    block = program.body
    while len(block) == 1 and block[0][0] == "for":
        _, counter, _, block = block[0]
        counters.append(counter)
    if any([statement[0] == "for" for statement in block]):
        return ()
    return tuple(counters)


def permutations(items):
    """Yield all orders of the items of a tuple, those that begin with earlier items first."""
    if items == ():
        yield ()
    for at, item in enumerate(items):
        others = items[:at] + items[at + 1:]
        for more in permutations(others):
            yield (item, *more)


def reordered(program, order):
    """Return the nest with its loops in this order."""
    _check_order(program, order)
    bounds = {}
    block = program.body
    for _ in order:
        _, counter, parts, block = block[0]
        bounds[counter] = parts
    for counter in reversed(order):
        block = (("for", counter, bounds[counter], block),)
    return program.replaced(block)


def clash(program, n, order):
    """Return a clash of an order, None if the order is legal."""
    return _even_judge(program, n, order).clash_in(order)


def is_legal(program, n, order):
    """Return whether an order is legal."""
    return _even_judge(program, n, order).clash_in(order) is None


def is_clash(program, n, order, value):
    """Return whether any value is a clash of an order."""
    return _judge(program, n, order).is_clash(order, value)


def legal_orders(program, n):
    """Yield the legal orders, as permutations yields them."""
    check_fits(program, n)
    counters = nest(program)
    judge = Judge(program, n, counters)
    judge.check_even()
    for order in permutations(counters):
        if judge.clash_in(order) is None:
            yield order


def _check_order(program, order):
    """Raise InvalidOrder unless any value is an order of the program."""
    counters = nest(program)
    if not isinstance(order, tuple) or len(order) != len(counters):
        raise InvalidOrder(order)
    for at, counter in enumerate(order):
        if not isinstance(counter, str) or counter not in counters or counter in order[:at]:
            raise InvalidOrder(order)


def _judge(program, n, order):
    """Return what judges an order; raise by what is wrong with the number or the order."""
    check_fits(program, n)
    _check_order(program, order)
    return Judge(program, n, nest(program))


def _even_judge(program, n, order):
    """Return what judges an order of a nest whose accesses have the factors for it."""
    judge = _judge(program, n, order)
    judge.check_even()
    return judge
