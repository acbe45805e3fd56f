"""Points 3 (e) and 17, and the interface of farmisses/costs.py."""

import inspect
import unittest

import oracle
from farmisses import costs as module
from farmisses.caches import Cache
from farmisses.costs import Costs, cost, costs
from farmisses.errors import InvalidNumber, InvalidWeights, LimitExceeded, OutOfRange
from farmisses.formulas import formula
from farmisses.programs import Program
from farmisses.walks import count

ONE = Cache.read("line 1 level 1 1 used back")
TWO = Cache.read("line 2 level 2 1 used back level 1 4 brought back")
THREE = Cache.read("line 3 level 1 2 used back")
SWEEP = Program.read("array a n for i n { write a[i] }")
BOTH = Program.read("array a n for i n { read a[i] } for i n { write a[n - 1 - i] }")
SQUARE = Program.read("array a n*n array b 9 for i n*n { read a[i] } for i 9 { write b[i] }")
TALLY = {("hit", 0, 0): 5, ("miss", 0, 0): 7, ("miss", 1, 2): 11, ("crowded", 0, 1): 2, ("back", 0): 3, ("back", 1): 13,
         ("thrown", 0, 0, 1): 1000, ("hit", 1, 7): 17, ("miss", 0, 3): 1}
GREATEST = 10 ** 30


def value(parts, m):
    return sum(part * m ** power for power, part in enumerate(parts))


class CostTest(unittest.TestCase):

    def test_without_weights(self):
        self.assertEqual(cost(TWO, TALLY), 7 + 11 + 3 + 13 + 1)
        self.assertEqual(cost(TWO, TALLY, None), 35)
        self.assertEqual(cost(TWO, {}), 0)

    def test_weights(self):
        for weights, expected in [
                ({}, 0), ({("hit", 0): 1}, 5), ({("hit", 1): 1}, 17), ({("miss", 0): 10}, 80), ({("miss", 1): 2}, 22),
                ({("crowded", 0): 3, ("back", 1): 1}, 19), ({("back", 0): GREATEST}, 3 * GREATEST),
                ({("crowded", 1): 5}, 0), ({("miss", 0): 0}, 0),
                ({("hit", 0): 1, ("miss", 0): 1, ("miss", 1): 1, ("back", 0): 1, ("back", 1): 1, ("hit", 1): 1,
                  ("crowded", 0): 1}, 59)]:
            self.assertEqual(cost(TWO, TALLY, weights), expected)
            self.assertEqual(cost(weights=weights, tally=TALLY, cache=TWO), expected)

    def test_no_weights(self):
        told = formula(SWEEP, TWO)
        for weights in [0, 1, True, "", "hit", (), [], [(("hit", 0), 1)], (("hit", 0), 1), {"hit": 1}, {("hit",): 1},
                        {("hit", 0, 0): 1}, {("thrown", 0): 1}, {("hit", 2): 1}, {("hit", -1): 1}, {("hit", True): 1},
                        {("hit", None): 1}, {("hit", 0): -1}, {("hit", 0): GREATEST + 1}, {("hit", 0): None},
                        {("hit", 0): True}, {("hit", 0): "1"}, {("hit", 0): 1.0}, {(0, "hit"): 1}, {None: 1}, {5: 1},
                        {("hit", 0): 1, ("misses", 0): 1}, {("hit", 0): 1, ("miss", 0): [1]}, {(None, 0): 1},
                        {(b"hit", 0): 1}, {("hit", "0"): 1}, {("HIT", 0): 1}, {frozenset(("hit", 0)): 1}]:
            for call in [lambda: cost(TWO, TALLY, weights), lambda: costs(told, weights)]:
                with self.assertRaises(InvalidWeights) as caught:
                    call()
                self.assertIs(caught.exception.value, weights)
        with self.assertRaises(InvalidWeights):
            cost(ONE, {}, {("hit", 1): 1})
        with self.assertRaises(InvalidWeights):
            costs(formula(SWEEP, ONE), {("hit", 1): 1})

    def test_interface(self):
        self.assertEqual(str(inspect.signature(cost)), "(cache, tally, weights=None)")
        self.assertEqual(str(inspect.signature(costs)), "(formula, weights=None)")
        for name, names in [("__call__", "(self, n)"), ("__add__", "(self, other)"), ("__sub__", "(self, other)"),
                            ("__mul__", "(self, other)"), ("__neg__", "(self)"), ("case", "(self, rest)"),
                            ("signs", "(self)")]:
            self.assertEqual(str(inspect.signature(vars(Costs)[name])), names)
        self.assertIsInstance(vars(Costs)["period"], property)
        self.assertEqual(module.costs(weights=None, formula=formula(SWEEP, ONE))(n=4), 7)


class CostsTest(unittest.TestCase):

    def check(self, one, numbers):
        """Compare the cases and the signs with the values."""
        signs = one.signs()
        self.assertIsInstance(signs, list)
        self.assertEqual([n % one.period for n, _ in signs], list(range(one.period)))
        for rest, (begin, sign) in enumerate(signs):
            least, parts = one.case(rest)
            self.assertIsInstance(parts, tuple)
            self.assertNotEqual(parts[-1:], (0,))
            for m in numbers:
                n = rest + one.period * (least + m)
                if n <= 10 ** 60:
                    self.assertEqual(one(n), value(parts, least + m))
                n = begin + one.period * m
                if n <= 10 ** 60:
                    cost_there = one(n)
                    self.assertEqual((cost_there > 0) - (cost_there < 0), sign)

    def test_values(self):
        weights = {("hit", 0): 3, ("miss", 1): 100, ("back", 0): 7, ("crowded", 0): 1}
        for program in [SWEEP, BOTH, SQUARE]:
            told = formula(program, TWO)
            for weighed in [None, weights, {}]:
                one = costs(told, weighed)
                self.assertEqual(one.period, told.period)
                for n in [0, 1, 2, 9, 40, 10 ** 60]:
                    self.assertEqual(one(n), cost(TWO, count(program, TWO, n), weighed))
                self.check(one, [0, 1, 7, 10 ** 20])

    def test_sums(self):
        sweep = costs(formula(SWEEP, TWO))
        both = costs(formula(BOTH, THREE), {("hit", 0): 2, ("back", 0): 9})
        square = costs(formula(SQUARE, ONE), {("miss", 0): GREATEST})
        for one, told in [(sweep + both, lambda n: sweep(n) + both(n)), (sweep - both, lambda n: sweep(n) - both(n)),
                          (both * 7, lambda n: 7 * both(n)), (both * -3, lambda n: -3 * both(n)),
                          (both * 0, lambda n: 0), (-sweep, lambda n: -sweep(n)),
                          (sweep * GREATEST - square, lambda n: GREATEST * sweep(n) - square(n)),
                          (square - sweep * 10 ** 33 + both, lambda n: square(n) - 10 ** 33 * sweep(n) + both(n)),
                          (-(sweep - both) * 2 - sweep, lambda n: -2 * (sweep(n) - both(n)) - sweep(n)),
                          (sweep - sweep, lambda n: 0)]:
            self.assertIsInstance(one, Costs)
            for n in [0, 1, 2, 3, 10, 35, 36, 37, 10 ** 30, 10 ** 60]:
                self.assertEqual(one(n), told(n))
            self.check(one, [0, 1, 2, 9, 10 ** 20])
        self.assertEqual((sweep + both).period % sweep.period, 0)
        self.assertEqual((sweep + both).period % both.period, 0)

    def test_operands_stay(self):
        sweep = costs(formula(SWEEP, TWO))
        before = [sweep.case(rest) for rest in range(sweep.period)]
        sweep + sweep, sweep * 5, -sweep, sweep - sweep
        self.assertEqual([sweep.case(rest) for rest in range(sweep.period)], before)
        self.assertEqual(sweep(10), cost(TWO, count(SWEEP, TWO, 10)))

    def test_weights_are_copied(self):
        weights = {("miss", 0): 2}
        one = costs(formula(SWEEP, ONE), weights)
        weights[("miss", 0)] = 100
        weights[("back", 0)] = 100
        self.assertEqual(one(10), 20)

    def test_other_operands(self):
        one = costs(formula(SWEEP, ONE))
        for call in [lambda: one + 1, lambda: one - 1, lambda: one * one, lambda: one * None, lambda: one + None,
                     lambda: one * "2", lambda: one * True]:
            self.assertRaises(TypeError, call)

    def test_signs_by_hand(self):
        # The sweep costs 2n - 1, the other one 40 for n >= 9.
        sweep = costs(formula(SWEEP, ONE))
        forty = costs(formula(Program.read("array a n for i 40 { read a[0] }"), ONE), {("hit", 0): 1, ("miss", 0): 1})
        for one, sign in [(sweep - forty, 1), (forty - sweep, -1), (sweep - sweep, 0), (forty - forty, 0)]:
            for begin, told in one.signs():
                self.assertEqual(told, sign)
                if sign != 0:
                    self.assertGreaterEqual(begin, 21)
        self.assertEqual(costs(formula(SWEEP, ONE), {}).case(0)[1], ())
        self.assertEqual(sweep.case(0)[1], (-1, 2))
        self.assertEqual(forty.case(0)[1], (40,))
        self.assertEqual(costs(formula(Program.read("array a 9 read a[0]"), ONE)).case(0), (0, (1,)))

    def test_where_the_cases_of_a_sum_begin(self):
        one, other = formula(BOTH, TWO), formula(BOTH, THREE)
        both = costs(one) - costs(other)
        self.assertEqual((one.period, other.period, both.period), (4, 3, 12))
        for rest in range(12):
            begins = [rest % told.period + told.period * told.case(rest % told.period)[0] for told in [one, other]]
            least, _ = both.case(rest)
            self.assertGreaterEqual(rest + 12 * least, max(begins))
            if least > 0:
                self.assertLess(rest + 12 * (least - 1), max(begins))
        self.assertGreater(max(both.case(rest)[0] for rest in range(12)), 0)

    def test_signs_of_small_coefficients(self):
        one = costs(formula(Program.read("array a n for i n { read a[i] }"), ONE))
        self.assertEqual(one.case(0)[1], (0, 1))
        self.assertEqual([sign for _, sign in one.signs()], [1])
        self.assertEqual([sign for _, sign in (-one).signs()], [-1])

    def test_raises_as_the_formula(self):
        one = costs(formula(SWEEP, TWO)) + costs(formula(Program.read("array a n - 5 read a[0]"), ONE))
        for n in [-1, 10 ** 60 + 1, None, True, "4"]:
            with self.assertRaises(InvalidNumber) as caught:
                one(n)
            self.assertIs(caught.exception.value, n)
        with self.assertRaises(OutOfRange) as caught:
            one(5)
        self.assertEqual(caught.exception.access, 0)
        for rest in [-1, one.period, None, True, "4", (0,)]:
            with self.assertRaises(InvalidNumber) as caught:
                one.case(rest)
            self.assertIs(caught.exception.value, rest)

    def test_by_chance(self):
        random_ = oracle.generator(51)
        done = 0
        while done < 25:
            found = []
            for _ in range(2):
                cache = oracle.some_cache(random_, 6)
                program = oracle.some_program(random_, even=True, loops=random_.choice([1, 2]))
                weights = random_.choice([None, {("miss", 0): random_.randrange(9), ("hit", 0): random_.randrange(3)}])
                try:
                    found.append(costs(formula(program, cache), weights))
                except LimitExceeded:
                    break
            if len(found) == 2:
                done += 1
                one, other = found
                both = one * random_.randrange(-3, 4) - other
                self.check(both, [0, 1, 3])


if __name__ == "__main__":
    unittest.main()
