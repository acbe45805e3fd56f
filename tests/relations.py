"""A slow reading of points 12 and 13, made anew from their words: which pairs (R, P) are returns."""

from math import lcm

import oracle


class Begun:
    """A loop that begins: what stands before each of its rounds, and the loops begun in each."""

    def __init__(self, statement, counters):
        self.statement, self.counters = statement, counters
        self.states, self.inner = [], []


def run(program, cache, n):
    """Play all rounds; return the list of the loops that begin outside of others."""
    names = program.arrays
    machine = oracle.machine_for(program, cache, n)
    numbers = {id(statement): at for at, statement in enumerate(flat(program.body))}

    def play(block, counters):
        begun = []
        for statement in block:
            if statement[0] == "flush":
                machine.flush()
            elif statement[0] == "for":
                loop = Begun(statement, counters)
                begun.append(loop)
                for at in range(max(0, oracle.value(statement[2], n))):
                    loop.states.append(machine.state())
                    loop.inner.append(play(statement[3], {**counters, statement[1]: at}))
            else:
                array = names.index(statement[1])
                machine.play(array, cell_of(statement, counters, n) // cache.line, statement[0] == "write",
                             numbers[id(statement)])
        return begun

    return play(program.body, {})


def flat(block):
    found = []
    for statement in block:
        found += flat(statement[3]) if statement[0] == "for" else [statement] if statement[0] != "flush" else []
    return found


def cell_of(statement, counters, n):
    parts, factors = statement[2]
    return oracle.value(parts, n) + sum(oracle.value(factor, n) * counters[name] for name, factor in factors)


def made(block, n):
    """The accesses of a block that are made, each with its inner loops as pairs (counter, bound)."""
    found = []
    for statement in block:
        if statement[0] == "for":
            bound = oracle.value(statement[2], n)
            if bound > 0:
                found += [(access, [(statement[1], bound)] + loops) for access, loops in made(statement[3], n)]
        elif statement[0] != "flush":
            found.append((statement, []))
    return found


def factors_of(loop, n):
    """The factor of each array, or None if the loop is not even."""
    found = {}
    for access, _ in made(loop.statement[3], n):
        factor = oracle.value(dict(access[2][1]).get(loop.statement[1], ()), n)
        if found.setdefault(access[1], factor) != factor:
            return None
    return found


def pace(factors, period):
    return next(p for p in range(1, period + 1) if all(p * factor % period == 0 for factor in factors.values()))


def cells(access, loops, counters, n):
    """All indexes of an access with these values of its inner counters, given as ranges."""
    if not loops:
        return [cell_of(access, counters, n)]
    name, values = loops[0]
    return [cell for at in values for cell in cells(access, loops[1:], {**counters, name: at}, n)]


def sleeps(program, cache, n, loop, begin, array, line):
    counter, bound = loop.statement[1], oracle.value(loop.statement[2], n)
    for access, loops in made(loop.statement[3], n):
        if access[1] != program.arrays[array]:
            continue
        spans = [(counter, range(begin, bound))] + [(name, range(many)) for name, many in loops]
        indexes = cells(access, spans, loop.counters, n)
        outside = not min(indexes) // cache.line <= line <= max(indexes) // cache.line
        own = {(line * cache.line + at) % cache.period for at in range(cache.line)}
        if not outside and own & {index % cache.period for index in indexes}:
            return False
    return True


def is_return(program, cache, n, loop, begin, many):
    factors = factors_of(loop, n)
    bound = oracle.value(loop.statement[2], n)
    if factors is None or many < 1 or begin < 0 or begin + many >= bound or many % pace(factors, cache.period):
        return False
    names = program.arrays
    lines = []
    for (rows, shadow), (others, other) in zip(loop.states[begin], loop.states[begin + many]):
        if len(shadow) != len(other):
            return False
        lines += list(zip(shadow, other))
        for (places, extra), (later, more) in zip(rows, others):
            if extra != more:
                return False
            for held, now in zip(places, later):
                if (held is None) != (now is None):
                    return False
                if held is not None:
                    if (held[0], held[2:]) != (now[0], now[2:]):
                        return False
                    lines.append((held[:2], now[:2]))
    for (array, line), (owner, at) in lines:
        if array != owner:
            return False
        if names[array] not in factors:
            if line != at:
                return False
            continue
        moves = many * factors[names[array]] // cache.line
        if at != line + moves and not (at == line and sleeps(program, cache, n, loop, begin, array, line)):
            return False
    return all((one == two) == (later == last) for one, later in lines for two, last in lines)


def paper_with(begun, chosen, begin, many):
    """The entries when only this loop takes a return: None for the others, without those not done."""
    entries = []
    for loop in begun:
        rounds = len(loop.states)
        skipped = range(0)
        if loop is chosen:
            entries.append((begin, many))
            skipped = range(begin + many, rounds - (rounds - begin - many) % many)
        else:
            entries.append(None)
        for at in range(rounds):
            if at not in skipped:
                entries += paper_with(loop.inner[at], chosen, begin, many)
    return entries


def all_begun(begun):
    """All loops that begin, in their order."""
    found = []
    for loop in begun:
        found.append(loop)
        for inner in loop.inner:
            found += all_begun(inner)
    return found
