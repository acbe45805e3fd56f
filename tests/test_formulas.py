"""Points 3 (d) and 16, and the interface of farmisses/formulas.py."""

import inspect
import unittest

import oracle
from farmisses import formulas
from farmisses.caches import Cache
from farmisses.errors import InvalidNumber, LimitExceeded, OutOfRange
from farmisses.formulas import Formula, formula, told_formula
from farmisses.machine import plain
from farmisses.programs import Program
from farmisses.walks import count, length

ONE = Cache.read("line 1 level 1 1 used back")
FOUR = Cache.read("line 4 level 2 2 used back")
SWEEP = Program.read("array a n for i n { write a[i] }")
NEST = Program.read("array a n*n array b n*n for i n { for k n { read a[n*i + k] write b[n*k + i] } }")
HARD = Program.read("array a 2*n for i n { read a[i] read a[2*i] }")


def value(parts, m):
    return sum(part * m ** power for power, part in enumerate(parts))


def outcome(call, *arguments):
    """What a call returns, or the error that it raises."""
    try:
        return call(*arguments)
    except OutOfRange as error:
        return ("outside", error.access)
    except LimitExceeded as error:
        return ("limit", error.word)


class FormulaCase(unittest.TestCase):

    def check_case(self, told, rest, random_):
        """Compare a case with counts, most of all where it begins."""
        program, cache = told.program, told.cache
        least, parts = told.case(rest)
        for m in sorted({0, 1, least, least + 1, max(0, least - 1), random_.randrange(30), 10 ** 50 + rest}):
            n = rest + told.period * m
            counted = outcome(count, program, cache, n)
            if m < least:
                self.assertEqual(outcome(told, n), counted)
                continue
            self.assertEqual(told(n), {key: value(part, m) for key, part in parts.items() if value(part, m)})
            if counted != ("limit", "steps"):
                self.assertEqual(told(n), counted, (program.tree(), cache.show(), n))
            if m < 100 and length(program, cache, n) < 1500:
                self.assertEqual(told(n), plain(program, cache, n))
        for part in parts.values():
            self.assertIsInstance(part, tuple)
            self.assertNotEqual(part[-1], 0)

    def check_formula(self, program, cache, random_):
        told = formula(program, cache)
        self.assertEqual((told.program, told.cache), (program, cache))
        self.assertEqual(told.period % cache.period, 0)
        self.assertLessEqual(told.period, 64)
        for rest in range(told.period):
            self.check_case(told, rest, random_)
        again = told_formula(program, cache, told.paper())
        self.assertEqual([again.case(rest) for rest in range(told.period)],
                         [told.case(rest) for rest in range(told.period)])
        self.assertEqual((again.period, again.program, again.cache), (told.period, program, cache))
        self.assertEqual(again.paper(), told.paper())
        return told


class FormulasTest(FormulaCase):

    def test_by_chance(self):
        random_ = oracle.generator(31)
        done = 0
        for _ in range(110):
            cache = oracle.some_cache(random_, 6)
            program = oracle.some_program(random_, loops=random_.choice([1, 1, 2, 3]), even=True,
                                          names=random_.choice(["a", "ab"]))
            try:
                formula(program, cache)
            except LimitExceeded:
                continue
            done += self.check_formula(program, cache, random_).period
        self.assertGreater(done, 100)

    def test_long_periods(self):
        random_ = oracle.generator(32)
        for program, text in [(SWEEP, "line 8 level 8 1 used back"), (SWEEP, "line 4 level 4 2 second back"),
                              (NEST, "line 2 level 2 1 used back"), (NEST, "line 3 level 1 2 brought through"),
                              (NEST, "line 1 level 2 2 used back level 3 1 used back")]:
            self.check_formula(program, Cache.read(text), random_)

    def test_by_hand(self):
        told = formula(SWEEP, FOUR)
        for rest in range(told.period):
            least, parts = told.case(rest)
            lines, step = -(-rest // 4), told.period // 4
            self.assertEqual(parts, {key: part for key, part in [
                (("miss", 0, 0), (lines, step)), (("hit", 0, 0), (rest - lines, told.period - step)),
                (("back", 0), (lines - 4, step)), (("thrown", 0, 0, 0), (lines - 4, step))]})
            self.assertLess(least, 100)
        for n in [0, 1, 15, 16, 17, 10 ** 60]:
            self.assertEqual(told(n), count(SWEEP, FOUR, n))

    def test_all_rules_and_writes(self):
        random_ = oracle.generator(33)
        program = Program.read("array a 2*n array b n*n for i n { write a[2*i + 1] read b[n*i] } for i n { read b[i] }")
        for rule in oracle.RULES:
            for writes in ["back", "through"]:
                for text in [f"line 2 level 2 2 {rule} {writes}",
                             f"line 1 level 1 4 {rule} {writes} level 2 1 {rule} back",
                             f"line 2 level 1 2 brought {writes} level 1 2 {rule} back level 3 1 used through"]:
                    try:
                        self.check_formula(program, Cache.read(text), random_)
                    except LimitExceeded as error:
                        self.assertIn("second" if rule == "second" else rule, ["second", "tree", "brought"], error.word)

    def test_programs_without_far_loops(self):
        random_ = oracle.generator(34)
        for text in ["", "array a 9 for i 9 { read a[i] }", "array a n + 9 for i 3 { read a[n*i - n*i + i] } flush",
                     "array a n read a[0]", "array a 9*n + 9 array b 9 for i 5 - n { read a[i] } write b[3]",
                     "array a n*n for i n*n - 30 { write a[i] } for i 30 - n*n { write a[i] }"]:
            if text == "array a n read a[0]":
                told = formula(Program.read(text), FOUR)
                with self.assertRaises(OutOfRange):
                    told(0)
                self.assertEqual(told(1), {("miss", 0, 0): 1})
            else:
                self.check_formula(Program.read(text), FOUR, random_)

    def test_loops_with_equal_steps(self):
        # Two lines that lie far apart for great n meet for small ones.
        random_ = oracle.generator(35)
        for text in ["array a 9*n + 99 for i n { read a[20] write a[3*n] }", "array a 9*n + 99 read a[37] read a[n] read a[37]",
                     "array a n*n + 200 for i n { write a[i] read a[i + 100] } read a[n*n] read a[2*n + 20] read a[99]",
                     "array a 9*n + 99 array b 100 - n array c n for i n { read a[i] read c[i] }"]:
            for cache in ["line 1 level 1 4 used back", "line 2 level 2 2 brought back", "line 4 level 1 2 tree through"]:
                self.check_formula(Program.read(text), Cache.read(cache), random_)

    def test_great_coefficients(self):
        random_ = oracle.generator(36)
        great = 10 ** 149
        program = Program.read(f"array a {great}*n*n*n array b {great}*n*n"
                               f" for i n*n {{ read a[n*i] for k n {{ write b[{great - 1}*n*i - {great - 1}*n*i + k] }} }}")
        told = self.check_formula(program, Cache.read("line 2 level 2 1 used back"), random_)
        self.assertEqual(sum(told(10 ** 60).get((word, 0, 1), 0) for word in ["hit", "miss"]), 10 ** 180)
        program = Program.read(f"array a {great}*n for i {great}*n {{ read a[i] }}")
        told = self.check_formula(program, ONE, random_)
        self.assertEqual(told(10 ** 60)[("miss", 0, 0)], great * 10 ** 60)

    def test_cases(self):
        # By `second` with three places, the rounds come again by threes: the period is no multiple of that.
        program = Program.read("array a 9*n array b 9 for i 2*n { read a[i] read b[0] }")
        cache = Cache.read("line 8 level 8 3 second back")
        self.assertEqual(outcome(formula, program, cache), ("limit", "cases"))

    def test_used_and_back_have_a_formula(self):
        random_ = oracle.generator(38)
        for _ in range(40):
            levels = " ".join(f"level {random_.choice([1, 2])} {random_.choice([1, 2, 3])} used back"
                              for _ in range(random_.choice([1, 2, 3])))
            cache = Cache.read(f"line {random_.choice([1, 2])} {levels}")
            program = oracle.some_program(random_, loops=2, even=True, names="ab", factors=("1", "2", "n"))
            self.assertNotEqual(outcome(formula, program, cache), ("limit", "cases"))

    def test_a_longer_period_where_the_own_one_does_not_do(self):
        # Each third round alone is like the first one.
        program = Program.read("array a 9*n array b 9 for i n { read b[0] read a[i + 1] }")
        random_ = oracle.generator(39)
        periods = set()
        for text in ["line 1 level 1 3 second back", "line 1 level 1 4 second back", "line 2 level 1 4 brought back",
                     "line 1 level 1 3 brought back", "line 1 level 1 4 tree back", "line 2 level 1 3 brought through"]:
            cache = Cache.read(text)
            told = self.check_formula(program, cache, random_)
            periods.add(told.period // cache.period)
        self.assertGreater(len(periods), 1)

    def test_outside(self):
        for text, access in [("array a n read a[0] read a[n]", 1), ("array a n*n for i n { read a[n*i + 1] read a[n*i + n] }", 1),
                             ("array a n for i n { read a[i] read a[n - 2 - i] }", 1), ("array a 9 - n read a[0]", 0),
                             ("array a n for i n { read a[9] read a[i - 9] }", 1), ("array a 7 for i n { read a[i] }", 0)]:
            with self.assertRaises(OutOfRange) as caught:
                formula(Program.read(text), FOUR)
            self.assertEqual(caught.exception.access, access)
            for shown in [None, (8, ())]:
                with self.assertRaises(OutOfRange) as caught:
                    told_formula(Program.read(text), FOUR, shown)
                self.assertEqual(caught.exception.access, access)

    def test_small_numbers_that_do_not_fit(self):
        program = Program.read("array a n - 20 for i n - 30 { read a[i + 5] } read a[3] read a[2*n - n - 25]")
        told = self.check_formula(program, FOUR, oracle.generator(40))
        with self.assertRaises(OutOfRange) as caught:
            told(22)
        self.assertEqual(caught.exception.access, 1)
        with self.assertRaises(OutOfRange) as caught:
            told(24)
        self.assertEqual(caught.exception.access, 2)
        self.assertEqual(told(27), count(program, FOUR, 27))

    def check_small(self, text, *caches):
        """Compare a formula with counts for all small numbers: each of its comparisons may fail for some."""
        program = Program.read(text)
        for cache in caches:
            told = formula(program, Cache.read(cache))
            for n in range(80):
                self.assertEqual(outcome(told, n), outcome(count, program, Cache.read(cache), n), (text, cache, n))
            for rest in range(told.period):
                # Not much more is needed than where the number 40 in the text makes a difference.
                self.assertLessEqual(told.case(rest)[0] * told.period, 120)

    def test_lengths_that_change_their_side(self):
        caches = ["line 1 level 2 1 used back", "line 2 level 3 1 brought back"]
        self.check_small("array a n array b n - 40 array c n for i n { read a[i] read c[i] }", *caches)
        self.check_small("array a n array b 40 - n array c n for i n { read a[i] read c[i] }", *caches)
        self.check_small("array a n array b 0 array c n for i n { read a[i] read c[i] }", *caches)

    def test_bounds_that_change_their_side(self):
        caches = ["line 1 level 1 2 used back", "line 2 level 2 1 second back"]
        self.check_small("array a 99 for i 40 - n { read a[i] }", *caches)
        self.check_small("array a 99 array b n for i n { for k 40 - n { read a[k] } write b[i] }", *caches)
        self.check_small("array a 99 array b n for i n - 40 { for k 10 { read a[k] } write b[i] }", *caches)
        self.check_small("array a 99 array b n for k 0 { for i n - 40 { write b[i] } } read a[1]", *caches)
        self.check_small("array a 99 for i 3 { for k 40 - n { read a[k + i] } }", *caches)

    def test_factors_that_change_their_side(self):
        caches = ["line 1 level 1 2 used back", "line 2 level 2 1 brought back"]
        self.check_small("array a n*n for i n { read a[n*i - 40*i] }", *caches)
        self.check_small("array a n*n for k 3 { for i n { read a[n*i - 40*i + k] } }", *caches)
        self.check_small("array a n*n for i n { read a[n*n - n*i + 40*i - 1] }", *caches)

    def test_indexes_that_change_their_side(self):
        caches = ["line 1 level 1 2 used back", "line 2 level 2 1 brought back"]
        self.check_small("array a n read a[n - 40] read a[40]", *caches)
        self.check_small("array a n*n for i n { read a[n*i - 40 + n] }", *caches)
        self.check_small("array a n*n - 40 for i n { read a[i] }", *caches)

    def test_lines_that_change_their_side(self):
        # Lines that are told apart for great n are one for some small one.
        caches = ["line 1 level 1 4 used back", "line 1 level 2 2 second back", "line 2 level 1 2 tree back",
                  "line 1 level 1 3 brought through level 1 4 used back", "line 1 level 1 1 used back level 2 1 used back"]
        for word in ["read", "write"]:
            self.check_small(f"array a n + 99 {word} a[40] {word} a[n] {word} a[40] {word} a[n]", *caches)
            self.check_small(f"array a n + 99 {word} a[40] for i 3 {{ {word} a[n + i] }} {word} a[40]", *caches)
            self.check_small(f"array a n + 99 array b n {word} a[40] {word} a[n] for i n {{ {word} b[i] }} {word} a[n]",
                             *caches)
            self.check_small(f"array a 2*n + 99 array b n {word} a[40] for i n {{ {word} b[0] }} {word} a[2*n]", *caches)
            self.check_small(f"array a 2*n + 99 array b n for i n {{ {word} a[40] }} for i n {{ {word} a[2*n] }}", *caches)
        self.check_small("array a n + 99 read a[40] flush read a[n]", *caches)
        # The line of a[40] is not in the shadow any more, but still in its set.
        self.check_small("array a 2*n + 99 array b 99 read a[40] for i 5 { read b[2*i] } read a[2*n]",
                         "line 1 level 2 2 used back", "line 1 level 2 1 used back level 2 2 brought back")

    def test_lines_that_sleep_from_some_number_on(self):
        # The line of a[40] lies behind those of the loop for small n only.
        caches = ["line 1 level 2 2 used back", "line 1 level 1 4 second through", "line 2 level 2 2 brought back"]
        self.check_small("array a 9*n + 99 read a[40] for i n { write a[2*n + i] }", *caches)
        self.check_small("array a 9*n + 99 read a[5*n] for i n { write a[40 + i] }", *caches)
        self.check_small("array a 9*n + 99 read a[5*n] for i n { for k 2 { write a[40 + i + k] } }", *caches)
        self.check_small("array a 9*n + 99 read a[41] for i n { write a[2*i] }", "line 1 level 2 2 used back")
        # The line waits where nothing is brought; for small n the loop comes to it.
        caches = ["line 1 level 1 4 second through", "line 2 level 1 2 used through", "line 1 level 2 1 brought through"]
        self.check_small("array a 9*n + 99 read a[3*n - 40] for i 2*n { write a[i] }", *caches)
        self.check_small("array a 9*n + 99 read a[n + 40] for i n { write a[3*n - i] }", *caches)
        self.check_small("array a 9*n + 99 read a[n + 40] for i n { for k 2 { write a[3*n - i - k] } }", *caches)
        self.check_small("array a 9*n + 99 read a[3*n - 40] for i n { for k 3 { write a[i + k] } }", *caches)
        self.check_small("array a 9*n + 99 read a[2*n - 41] for i n { write a[i] } read a[n]", *caches)

    def test_limits(self):
        with self.assertRaises(LimitExceeded) as caught:
            formula(HARD, FOUR)
        self.assertEqual(caught.exception.word, "steps")

    def test_numbers(self):
        told = formula(SWEEP, FOUR)
        for n in [-1, 10 ** 60 + 1, None, True, "4", 1.0, (4,)]:
            with self.assertRaises(InvalidNumber) as caught:
                told(n)
            self.assertIs(caught.exception.value, n)
        for rest in [-1, told.period, None, True, "4", 1.0, (4,), 10 ** 60]:
            with self.assertRaises(InvalidNumber) as caught:
                told.case(rest)
            self.assertIs(caught.exception.value, rest)

    def test_dicts_are_new(self):
        told = formula(SWEEP, FOUR)
        parts = told.case(3)[1]
        kept = dict(parts)
        parts.clear()
        told(10 ** 6).clear()
        self.assertEqual(told.case(3)[1], kept)
        self.assertEqual(told(10 ** 6), count(SWEEP, FOUR, 10 ** 6))

    def test_interface(self):
        self.assertEqual(str(inspect.signature(formula)), "(program, cache)")
        self.assertEqual(str(inspect.signature(told_formula)), "(program, cache, value)")
        for name in ["program", "cache", "period"]:
            self.assertIsInstance(vars(Formula)[name], property)
        for name, names in [("__call__", "(self, n)"), ("case", "(self, rest)"), ("paper", "(self)")]:
            self.assertEqual(str(inspect.signature(vars(Formula)[name])), names)
        self.assertEqual(formula(cache=ONE, program=SWEEP)(n=3), {("miss", 0, 0): 3, ("thrown", 0, 0, 0): 2, ("back", 0): 2})
        self.assertEqual(formulas.told_formula(value=None, cache=ONE, program=SWEEP), None)


class PapersTest(FormulaCase):

    def test_form(self):
        period, cases = formula(SWEEP, FOUR).paper()
        self.assertEqual(len(cases), period)
        for least, entries in cases:
            self.assertGreaterEqual(least, 0)
            self.assertEqual(len(entries), 1)

    def test_written_by_hand(self):
        # The rounds from 13 on come again by eights: 16 of them are more than enough.
        value = (8, tuple((9, ((16, 8),)) for _ in range(8)))
        told = told_formula(SWEEP, FOUR, value)
        self.assertEqual((told.period, told.paper()), (8, value))
        for n in [0, 5, 71, 72, 73, 80, 1000, 10 ** 60]:
            self.assertEqual(told(n), count(SWEEP, FOUR, n))
        self.assertEqual(told.case(3)[0], 9)
        value = (24, tuple((4, ((16 + rest, 24),)) for rest in range(24)))
        self.assertEqual(told_formula(SWEEP, FOUR, value).period, 24)
        for many in [16, 4, 7, 9, 48]:
            self.assertIsNone(told_formula(SWEEP, FOUR, (8, tuple((99, ((16, many),)) for _ in range(8)))))
        value = (8, tuple((9, ((16, 8) if rest else (12, 8),)) for rest in range(8)))
        self.assertIsNone(told_formula(SWEEP, FOUR, value))
        self.assertIsNone(told_formula(SWEEP, FOUR, (8, tuple((9, (None,)) for _ in range(8)))))
        self.assertIsNone(told_formula(SWEEP, FOUR, (8, tuple((9, ((99999, 8),)) for _ in range(8)))))

    def test_leasts_that_are_too_small(self):
        # With R + P = 24 rounds, a case begins where there are more of them.
        for rest in range(8):
            for least in range(6):
                value = (8, tuple((least if at == rest else 9, ((16, 8),)) for at in range(8)))
                told = told_formula(SWEEP, FOUR, value)
                if rest + 8 * least <= 24:
                    self.assertIsNone(told)
                elif told is not None:
                    for m in range(least, 9):
                        self.assertEqual(told(rest + 8 * m), plain(SWEEP, FOUR, rest + 8 * m))
        self.assertIsNotNone(told_formula(SWEEP, FOUR, (8, tuple((6, ((16, 8),)) for _ in range(8)))))

    def check_bent(self, program, cache, shown):
        """A bent paper gives None, or a formula that is right."""
        told = told_formula(program, cache, shown)
        if told is None:
            return 0
        self.assertEqual(told.paper(), shown)
        for rest in range(told.period):
            least, _ = told.case(rest)
            for m in [least, least + 1, least + 5, 10 ** 40]:
                n = rest + told.period * m
                counted = outcome(count, program, cache, n)
                self.assertIn(counted, [told(n), ("limit", "steps")], (program.tree(), cache.show(), shown, n))
        return 1

    def test_bent_papers(self):
        random_ = oracle.generator(41)
        taken = refused = 0
        for _ in range(60):
            cache = oracle.some_cache(random_, 4)
            program = oracle.some_program(random_, loops=2, even=True, names="ab")
            try:
                period, cases = formula(program, cache).paper()
            except LimitExceeded:
                continue
            for _ in range(12):
                rest = random_.randrange(period)
                bent = self.bend(random_, *cases[rest])
                shown = (period, cases[:rest] + (bent,) + cases[rest + 1:])
                was_taken = self.check_bent(program, cache, shown)
                taken += was_taken
                refused += 1 - was_taken
        self.assertGreater(taken, 20)
        self.assertGreater(refused, 100)

    def bend(self, random_, least, entries):
        entries = list(entries)
        chance = random_.randrange(5)
        if chance == 0 or not entries:
            return (max(0, least + random_.choice([-2, -1, -1, 1])), tuple(entries))
        at = random_.randrange(len(entries))
        if chance == 1:
            del entries[at]
        elif chance == 2:
            entries.insert(at, random_.choice([None, (0, 1), (1, 1)]))
        elif entries[at] is None:
            entries[at] = random_.choice([(0, 1), (1, 1), (1, 2)])
        else:
            begin, many = entries[at]
            entries[at] = random_.choice([None, (begin + 1, many), (max(0, begin - 1), many), (begin, many + 1),
                                          (begin, 2 * many), (begin, max(1, many // 2)), (0, many)])
        return (least, tuple(entries))

    def test_no_papers(self):
        good = formula(SWEEP, FOUR).paper()
        period, cases = good
        self.assertEqual(period, 8)
        for shown in [None, 0, True, "", (), [], (8,), (8, cases, 0), [8, cases], (8, list(cases)), (True, cases),
                      (8.0, cases), ("8", cases), (None, cases), (8, None), (8, cases[:-1]), (8, cases + cases[:1]),
                      (0, ()), (-8, cases), (4, cases[:4]), (1, cases[:1]), (12, cases + cases[:4]), (72, cases * 9),
                      (128, cases * 16), (8, (None,) * 8), (8, (0,) * 8), (8, ((),) * 8), {8: cases}]:
            self.assertIsNone(told_formula(SWEEP, FOUR, shown), shown)
        least, entries = cases[0]
        for case in [None, (), (least,), (least, entries, 0), [least, entries], (True, entries), (-1, entries),
                     (None, entries), ("9", entries), (9.0, entries), (least, list(entries)), (least, None),
                     (least, entries + (None,)), (least, ()), (least, (True,)), (least, ((True, 8),)), (least, ((16,),)),
                     (least, ([16, 8],)), (least, ((-1, 8),)), (least, ((16, 0),)), (least, (("16", 8),))]:
            self.assertIsNone(told_formula(SWEEP, FOUR, (8, (case,) + cases[1:])), case)
            self.assertIsNone(told_formula(SWEEP, FOUR, (8, cases[:7] + (case,))), case)
        self.assertIsNone(told_formula(NEST, FOUR, good))

    def test_longer_periods(self):
        period, cases = formula(SWEEP, FOUR).paper()
        for times in [2, 3, 8]:
            told = told_formula(SWEEP, FOUR, (8 * times, cases * times))
            self.assertEqual(told.period, 8 * times)
            for n in [0, 11, 99, 10 ** 60]:
                self.assertEqual(told(n), count(SWEEP, FOUR, n))


if __name__ == "__main__":
    unittest.main()
