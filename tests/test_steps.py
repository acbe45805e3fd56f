"""Points 8 and 10: how many steps plain does, and how little it needs for those that change nothing."""

import itertools
import sys
import unittest

import oracle
from farmisses.caches import Cache
from farmisses.errors import InvalidNumber, LimitExceeded, OutOfRange, TooLarge
from farmisses.machine import plain
from farmisses.plans import plan, steps_in, without_idle_loops
from farmisses.programs import Program

EIGHT = Cache(8, ((1, 1, "used", "back"),))
GREAT = 10 ** 60


def steps_told(program, n):
    """All rounds, accesses and flushes, one by one."""
    return sum(1 for _ in oracle.events(program.tree(), n))


class StepsCase(unittest.TestCase):

    def limited(self, program, n, cache=EIGHT):
        with self.assertRaises(LimitExceeded) as caught:
            plain(program, cache, n)
        self.assertEqual(caught.exception.word, "steps")

    def calls_of(self, call):
        """How many functions are called; they are counted instead of the time, which is another one each time."""
        made = [0]

        def note(frame, event, argument):
            made[0] += event == "call"
        sys.setprofile(note)
        try:
            call()
        except LimitExceeded:
            pass
        finally:
            sys.setprofile(None)
        return made[0]


class LimitTest(StepsCase):

    def check(self, text, at_most, tally, cache=EIGHT):
        """A program that makes 400000 steps for n = at_most, and more of them for the next n."""
        program = Program.read(text)
        self.assertEqual(plain(program, cache, at_most), tally)
        self.limited(program, at_most + 1, cache)
        self.assertLess(self.calls_of(lambda: plain(program, cache, at_most + 1)), 600)

    def test_loops_that_do_nothing(self):
        for text, at_most in [("for i n { }", 400000), ("for i n { for j 2 { } }", 133333),
                              ("for i n { for j 2 { } } for k 1 { }", 133333), ("for i n { for j 399999 { } }", 1),
                              ("for i n { for j 19 { for k 19 { } } }", 400000 // 381), ("for i 5 { for j n { } } for k n { }", 66665),
                              ("for i n { } for j n { for k -5 { for l n { } } } for m n { for o 0 { } for p n - n { flush } }",
                               133333),
                              ("for a n { for b 1 { for c 1 { for d 1 { for e 1 { } } } } }", 80000)]:
            self.check(text, at_most, {})
            self.assertLess(self.calls_of(lambda: plain(Program.read(text), EIGHT, at_most)), 1200)

    def test_exactly(self):
        for text, begin in [("", 0), ("for i 6 { for j 6 { } }", 42), ("for i 199999 { for j 1 { } }", 399998),
                            ("for i 7 { for j 7 { for k 7 { } } } for i 3 { }", 7 + 49 + 343 + 3)]:
            self.assertEqual(plain(Program.read(f"{text} for z {400000 - begin} {{ }}"), EIGHT, 1), {})
            self.limited(Program.read(f"{text} for z {400001 - begin} {{ }}"), 1)
            self.assertEqual(plain(Program.read(f"for z {400000 - begin} {{ }} {text}"), EIGHT, 1), {})
            self.limited(Program.read(f"for z {400001 - begin} {{ }} {text}"), 1)

    def test_bounds_of_sixty_digits(self):
        for text in ["for i n { }", "for i 2 { for j n { } }", "for i n { for j n { for k n { for l n { for m n { } } } } }",
                     "for i n*n*n { }", "array a n for i n { read a[i] }", "for i n { flush }", "for i n { for j n { flush } }",
                     "array a 9 read a[0] for i n - 9 { }", "for i n { for j 0 { } }"]:
            for n in [GREAT, GREAT - 1]:
                self.limited(Program.read(text), n)
                self.assertLess(self.calls_of(lambda: plain(Program.read(text), EIGHT, n)), 1200)
        for text in ["for i n - n { for j n { } }", f"for i n - {GREAT} {{ for j n {{ flush }} }}",
                     "array a n for i 0 { for j n { for k n*n { write a[j] } } }", "for i -n { for j n { } }",
                     f"for i n - {GREAT - 400000} {{ }}", f"for i n - {GREAT - 200000} {{ for j 1 {{ }} }}"]:
            self.assertEqual(plain(Program.read(text), EIGHT, GREAT), {})
        for text in [f"for i n - {GREAT - 400001} {{ }}", f"for i n - {GREAT - 200000} {{ for j 1 {{ }} }} for k 1 {{ }}"]:
            self.limited(Program.read(text), GREAT)
        tally = plain(Program.read(f"array a n read a[n - 1] for i 5 {{ write a[i] for k n - {GREAT - 70000} {{ }} }} flush"),
                      EIGHT, GREAT)
        self.assertEqual(tally, {("miss", 0, 0): 1, ("miss", 0, 1): 1, ("hit", 0, 1): 4, ("thrown", 0, 1, 0): 1, ("back", 0): 1})

    def test_accesses_and_flushes(self):
        self.check("array a 8 for i n { flush }", 200000, {})
        self.check("array a 8 for i n { read a[0] }", 200000, {("hit", 0, 0): 199999, ("miss", 0, 0): 1})
        self.check("array a 8 for i n { for j 1 { } for k 0 { flush read a[9] write a[0] } }", 200000, {})
        self.check("array a 8 for k n - n { for l n { read a[n] } } for i n { flush } read a[0] flush for z -2*n { }", 199999,
                   {("miss", 0, 1): 1})
        self.check("array a 8 write a[1] for i n { for j 3 { for k -n { write a[0] } } } flush", 99999, {("miss", 0, 0): 1, ("back", 0): 1})
        self.check("array a 8 for i n { write a[1] flush }", 133333, {("miss", 0, 0): 133333, ("back", 0): 133333})

    def test_refused_ahead_of_the_limit(self):
        for value in [None, True, -1, GREAT + 1]:
            with self.assertRaises(InvalidNumber):
                plain(Program.read("for i 999999 { }"), EIGHT, value)
        with self.assertRaises(OutOfRange) as caught:
            plain(Program.read("array a n for i n { } read a[n]"), EIGHT, GREAT)
        self.assertEqual(caught.exception.access, 0)


class TalliesTest(StepsCase):

    def some_block(self, random_, depth, counters):
        """Many loops that do nothing, or that have no rounds, between some accesses and flushes."""
        parts = []
        for _ in range(random_.choice([0, 1, 2, 3])):
            chance = random_.random()
            if chance < 0.55 and depth < 4:
                counter = f"i{next(self.numbers)}"
                bound = random_.choice(["n", "2", "1", "0", "n - 2", "-3"])
                parts.append(f"for {counter} {bound} {{ {self.some_block(random_, depth + 1, counters + [counter])} }}")
            elif chance < 0.7:
                parts.append("flush")
            elif chance < 0.9:
                parts.append(f"{random_.choice(['read', 'write'])} a[{' + '.join(['1', *counters])}]")
        return " ".join(parts)

    def test_what_they_were(self):
        random_ = oracle.generator(111)
        idle = 0
        for _ in range(400):
            self.numbers = itertools.count()
            try:
                program = Program.read("array a 99 " + self.some_block(random_, 0, []) + " " + self.some_block(random_, 0, []))
            except TooLarge:
                continue
            cache = oracle.some_cache(random_)
            for n in [0, 2, 3]:
                self.assertEqual(plain(program, cache, n), oracle.tally(program, cache, n))
                block = plan(program, n)
                steps = steps_in(block)
                self.assertEqual(steps, steps_told(program, n))
                kept = without_idle_loops(block)
                idle += steps_in(kept) < steps
        self.assertGreater(idle, 400)

    def test_few_calls(self):
        for text, n in [("for i n { for j 2 { } }", 133333), ("for i n { for j 2 { } }", 133334), ("array a 8 for i n { flush }", 200001),
                        ("array a 8 for i n { read a[0] }", 200001)]:
            program = Program.read(text)
            self.assertLess(self.calls_of(lambda: plain(program, EIGHT, n)), 300)


if __name__ == "__main__":
    unittest.main()
