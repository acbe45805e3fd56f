"""A slow reading of points 8, 10 and 11, made anew from their words, to compare the package with."""

import random

from farmisses.caches import Cache
from farmisses.programs import Program

RULES = ["used", "brought", "second", "tree"]


def value(parts, n):
    return sum(part * n ** power for power, part in enumerate(parts))


def events(tree, n):
    """All that a program does: ("round",), ("flush",), (number, array, cell, is_write)."""
    arrays, block = tree
    names = [name for name, _ in arrays]
    numbers = {}

    def number_all(block, path):
        for at, statement in enumerate(block):
            if statement[0] == "for":
                number_all(statement[3], path + (at,))
            elif statement[0] != "flush":
                numbers[path + (at,)] = len(numbers)

    number_all(block, ())

    def run(block, path, counters):
        for at, statement in enumerate(block):
            if statement[0] == "for":
                for round_ in range(max(0, value(statement[2], n))):
                    yield ("round",)
                    yield from run(statement[3], path + (at,), {**counters, statement[1]: round_})
            elif statement[0] == "flush":
                yield ("flush",)
            else:
                parts, factors = statement[2]
                cell = value(parts, n) + sum(
                    value(factor, n) * counters[counter] for counter, factor in factors)
                array = names.index(statement[1])
                yield (numbers[path + (at,)], array, cell, statement[0] == "write")

    return run(block, (), {})


def fits(tree, n):
    """The number of the first access in the text that leaves its array, by playing all; None if none."""
    lengths = [value(parts, n) for _, parts in tree[0]]
    wrong = [event[0] for event in events(tree, n)
             if len(event) == 4 and not 0 <= event[2] < lengths[event[1]]]
    return min(wrong, default=None)


def bases(tree, cells, n):
    found, free = [], 0
    for _, parts in tree[0]:
        found.append(free)
        length = max(0, value(parts, n))
        free += (length + cells - 1) // cells
    return found


class Place:
    def __init__(self):
        self.key = None
        self.dirty = False
        self.last = None
        self.used = self.brought = 0
        self.light = False


class Machine:
    """The levels with clocks instead of orders."""

    def __init__(self, cells, levels, bases):
        self.cells, self.levels, self.bases = cells, levels, bases
        self.tally, self.clock = {}, 0
        self.empty()

    def empty(self):
        self.sets = [[[Place() for _ in range(ways)] for _ in range(sets)]
                     for sets, ways, _, _ in self.levels]
        self.pointers = [[0] * sets for sets, _, _, _ in self.levels]
        self.bits = [[{} for _ in range(sets)] for sets, _, _, _ in self.levels]
        self.shadows = [[] for _ in self.levels]

    def add(self, *key):
        self.tally[key] = self.tally.get(key, 0) + 1

    def flush(self):
        for level, rows in enumerate(self.sets):
            for row in rows:
                for place in row:
                    if place.key is not None and place.dirty:
                        self.add("back", level)
        self.empty()

    def play(self, array, line, is_write, number):
        self.request(0, (array, line), is_write, number)

    def request(self, level, key, is_write, number):
        if level == len(self.levels):
            return
        sets, ways, rule, writes = self.levels[level]
        at = (self.bases[key[0]] + key[1]) % sets
        row = self.sets[level][at]
        near = key in self.shadows[level]
        self.shadows[level] = ([key] + [other for other in self.shadows[level] if other != key])[:sets * ways]
        hit = [place for place in row if place.key == key]
        if hit:
            self.add("hit", level, number)
            self.use(level, at, hit[0], number)
            hit[0].light = True
            if is_write and writes == "back":
                hit[0].dirty = True
            if is_write and writes == "through":
                self.request(level + 1, key, True, number)
            return
        self.add("miss", level, number)
        if near:
            self.add("crowded", level, number)
        if is_write and writes == "through":
            self.request(level + 1, key, True, number)
            return
        self.request(level + 1, key, False, number)
        empty = [place for place in row if place.key is None]
        place = empty[0] if empty else self.choose(level, at)
        if place.key is not None:
            self.add("thrown", level, number, place.last)
            if place.dirty:
                self.add("back", level)
                self.request(level + 1, place.key, True, number)
        place.key, place.dirty, place.light = key, is_write, False
        self.use(level, at, place, number)
        place.brought = self.clock

    def use(self, level, at, place, number):
        self.clock += 1
        place.used, place.last = self.clock, number
        ways = self.levels[level][1]
        spot = self.sets[level][at].index(place)
        bits = self.bits[level][at]
        # The bit of a group of places is known by the first one and the number of these.
        begin, many = 0, ways
        while many > 1:
            many //= 2
            second = spot >= begin + many
            bits[begin, many] = not second
            begin += many if second else 0

    def choose(self, level, at):
        sets, ways, rule, writes = self.levels[level]
        row = self.sets[level][at]
        if rule == "used":
            return min(row, key=lambda place: place.used)
        if rule == "brought":
            return min(row, key=lambda place: place.brought)
        if rule == "second":
            while row[self.pointers[level][at]].light:
                row[self.pointers[level][at]].light = False
                self.pointers[level][at] = (self.pointers[level][at] + 1) % ways
            chosen = row[self.pointers[level][at]]
            self.pointers[level][at] = (self.pointers[level][at] + 1) % ways
            return chosen
        begin, many = 0, ways
        while many > 1:
            many //= 2
            if self.bits[level][at].get((begin, many), False):
                begin += many
        return row[begin]

    def state(self):
        return tuple((tuple(self.row_state(level, at) for at in range(self.levels[level][0])),
                      tuple(self.shadows[level])) for level in range(len(self.levels)))

    def row_state(self, level, at):
        sets, ways, rule, writes = self.levels[level]
        row = self.sets[level][at]
        order = list(row)
        if rule == "used":
            order.sort(key=lambda place: -place.used)
        if rule == "brought":
            order.sort(key=lambda place: -place.brought)
        if rule in ("used", "brought"):
            order = [p for p in order if p.key is not None] + [p for p in order if p.key is None]
        places = tuple(None if p.key is None else (*p.key, p.dirty, p.last) for p in order)
        extra = ()
        if rule == "second":
            extra = (self.pointers[level][at], tuple(p.light for p in row))
        if rule == "tree":
            groups = {1: [], 2: [(0, 1)], 4: [(0, 2), (0, 1), (2, 1)]}[ways]
            extra = tuple(self.bits[level][at].get(group, False) for group in groups)
        return (places, extra)

    def contents(self, names):
        return [[[(names[p[0]], p[1], p[2]) for p in places if p is not None] for places, _ in rows]
                for rows, _ in self.state()]

    def lost(self, names):
        return sorted((level, names[p[0]], p[1]) for level, (rows, _) in enumerate(self.state())
                      for places, _ in rows for p in places if p is not None and p[2])


def machine_for(program, cache, n):
    return Machine(cache.line, cache.levels, bases(program.tree(), cache.line, n))


def tally(program, cache, n, time=None):
    """The tally, of the first accesses if a time is given."""
    return played(program, cache, n, time).tally


def played(program, cache, n, time=None):
    machine = machine_for(program, cache, n)
    done = 0
    for event in events(program.tree(), n):
        if done == time:
            break
        if event == ("flush",):
            machine.flush()
        elif len(event) == 4:
            number, array, cell, is_write = event
            machine.play(array, cell // cache.line, is_write, number)
            done += 1
    return machine


# What follows makes programs and caches by chance, each time the same ones for a seed.

def some_cache(random_, most_period=64):
    while True:
        levels = []
        for _ in range(random_.choice([1, 1, 2, 3])):
            rule = random_.choice(RULES)
            ways = random_.choice([1, 2, 4] if rule == "tree" else [1, 2, 3, 4])
            levels.append((random_.choice([1, 1, 2, 2, 3, 4]), ways, rule, random_.choice(["back", "back", "through"])))
        cells = random_.choice([1, 1, 2, 2, 3, 4])
        try:
            cache = Cache(cells, tuple(levels))
        except ValueError:
            continue
        if cache.period <= most_period:
            return cache


def some_program(random_, loops=2, names="ab", bounds=("n", "n", "2*n", "n - 1", "3"),
                 factors=("1", "1", "2", "n", "-1", "3"), even=False):
    """A program with long arrays; factors below 0 begin high up; where even, those of an array are equal."""
    count = [0]
    known = {}

    def some_factor(name, counter):
        factor = random_.choice(factors) if random_.random() < 0.75 else None
        return known.setdefault((name, counter), factor) if even else factor

    def access(counters):
        name = random_.choice(names)
        terms, begin = [], random_.choice(["0", "0", "1", "5", "n"])
        for counter in counters:
            factor = some_factor(name, counter)
            if factor is not None:
                if factor.startswith("-"):
                    begin = "9*n*n + 40"
                    terms.append(f"- {factor[1:]}*{counter}")
                else:
                    terms.append(f"+ {factor}*{counter}")
        word = random_.choice(["read", "read", "write"])
        return f"{word} {name}[{begin} {' '.join(terms)}]"

    def block(depth, counters):
        lines = []
        for _ in range(random_.choice([1, 1, 2, 2, 3])):
            chance = random_.random()
            if depth < loops and chance < 0.5:
                count[0] += 1
                counter = f"i{count[0]}"
                inner = block(depth + 1, counters + [counter])
                lines.append(f"for {counter} {random_.choice(bounds)} {{ {inner} }}")
            elif chance < 0.54:
                lines.append("flush")
            else:
                lines.append(access(counters))
        return " ".join(lines)

    arrays = " ".join(f"array {name} 30*n*n + 60" for name in names)
    return Program.read(f"{arrays} {block(0, [])}")


def generator(seed):
    return random.Random(seed)
