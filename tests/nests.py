"""A slow reading of points 18 to 21, made anew from their words, to compare the package with."""

import itertools

import oracle
from farmisses.programs import Program


class Nest:
    """A nest taken apart for a number: counters, bounds, and (array, is_write, begin, factors) of each access."""

    def __init__(self, program, n):
        self.counters, self.bounds = [], []
        block = program.body
        while block and block[0][0] == "for":
            _, counter, parts, block = block[0]
            self.counters.append(counter)
            self.bounds.append(max(0, oracle.value(parts, n)))
        self.accesses = []
        for statement in block:
            if statement[0] != "flush":
                word, array, (parts, factors) = statement
                factors = dict(factors)
                self.accesses.append((array, word == "write", oracle.value(parts, n), tuple(
                    oracle.value(factors.get(counter, ()), n) for counter in self.counters)))
        self.rounds = list(itertools.product(*(range(bound) for bound in self.bounds)))

    def cell(self, access, round_):
        _, _, begin, factors = self.accesses[access]
        return begin + sum(factor * number for factor, number in zip(factors, round_))

    def meeting(self):
        """All (access, other, begin, end) of one cell, not both reads, begin ahead of end as the nest stands."""
        touched = {}
        for access, (array, _, _, _) in enumerate(self.accesses):
            for round_ in self.rounds:
                touched.setdefault((array, self.cell(access, round_)), []).append((access, round_))
        found = set()
        for met in touched.values():
            for access, begin in met:
                for other, end in met:
                    if begin < end and (self.accesses[access][1] or self.accesses[other][1]):
                        found.add((access, other, begin, end))
        return found

    def clashes(self, order):
        places = [self.counters.index(counter) for counter in order]
        return {clash for clash in self.meeting()
                if [clash[3][at] for at in places] < [clash[2][at] for at in places]}

    def uneven(self):
        """The array that Uneven names, None if there is none."""
        if 0 in self.bounds:
            return None
        for array, is_write, _, factors in self.accesses:
            for name, writes, _, others in self.accesses:
                if array == name and (is_write or writes) and factors != others:
                    return array
        return None


def some_nest(random_, loops, names="ab", bounds=("n", "n", "2", "3", "n - 1", "n + 1", "1", "4"), even=0.96):
    """A nest with factors of both signs; mostly those of an array are equal."""
    counters = random_.sample("ijklm", loops)
    choices = ["0", "1", "1", "-1", "2", "-2", "3", "n", "-n", "5"]
    factors = {name: [random_.choice(choices) for _ in counters] for name in names}
    lines = []
    for _ in range(random_.choice([1, 2, 2, 3, 4])):
        if random_.random() < 0.04:
            lines.append("flush")
            continue
        name = random_.choice(names)
        own = factors[name] if random_.random() < even else [random_.choice(choices) for _ in counters]
        terms = [f"- {factor[1:]}*{counter}" if factor[0] == "-" else f"+ {factor}*{counter}"
                 for factor, counter in zip(own, counters)]
        begin = random_.choice(["40*n*n", "40*n*n + 1", "40*n*n + 2", "40*n*n - 3", "40*n*n + n"])
        lines.append(f"{random_.choice(['read', 'write'])} {name}[{begin} {' '.join(terms)}]")
    heads = " ".join(f"for {counter} {random_.choice(bounds)} {{" for counter in counters)
    arrays = " ".join(f"array {name} 90*n*n + 40" for name in names)
    return Program.read(f"{arrays} {heads} {' '.join(lines)} {'}' * loops}")
