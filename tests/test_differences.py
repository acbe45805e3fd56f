"""What farmisses/differences.py finds, against all values one by one."""

import itertools
import unittest

import oracle
from farmisses.differences import Sums
from farmisses.errors import LimitExceeded


def made(terms, values):
    return sum(factor * value for (factor, _, _), value in zip(terms, values))


class DifferencesTest(unittest.TestCase):

    def check(self, terms, target, is_found):
        values = Sums(list(terms)).values_for(target)
        self.assertEqual(values is not None, is_found, (terms, target))
        if is_found:
            self.assertEqual(len(values), len(terms))
            self.assertEqual(made(terms, values), target)
            for (_, least, greatest), value in zip(terms, values):
                self.assertTrue(least <= value <= greatest, (terms, target))

    def test_against_all_values(self):
        random_ = oracle.generator(181)
        found = 0
        for _ in range(1200):
            terms = []
            for _ in range(random_.choice([0, 1, 2, 3, 3, 4])):
                least = random_.randint(-5, 3)
                factor = random_.choice([0, 1, -1, 2, -2, 3, 4, -6, 10, 15, random_.randint(-30, 30)])
                terms.append((factor, least, least + random_.randint(-1, 6)))
            sums = {made(terms, values) for values in
                    itertools.product(*(range(least, greatest + 1) for _, least, greatest in terms))}
            for target in [random_.randint(-60, 60), *random_.sample(sorted(sums), min(2, len(sums)))]:
                self.check(terms, target, target in sums)
                found += target in sums
        self.assertGreater(found, 1500)

    def test_great_numbers(self):
        great = 10 ** 60
        for a, b in [(great + 1, great), (2 * great + 5, 3), (10 ** 31 + 9, 10 ** 30 + 7), (2, 3)]:
            span = (-3 * great, 3 * great)
            self.check([(a, *span), (-b, *span)], 1, True)
            self.check([(2 * a, *span), (2 * b, *span)], 1, False)
            self.check([(a, 1, a), (b, -b, -1)], a * b, False)
            self.check([(a, 1, b), (b, -a, -1)], 0, True)
            self.check([(a, 1, b - 1), (b, 1 - a, -1)], 0, False)
        # Factors as great as what those that are not greater make together.
        terms = [(1, 1 - great, great - 1), (great - 1, 1 - great, great - 1),
                 (great * great - great, 1 - great, great - 1)]
        self.check(terms, great ** 2, True)
        self.check(terms, great ** 3 - great ** 2, True)
        self.check(terms, great ** 3 - great ** 2 + 1, False)
        self.check([(1, 1, 5), (great, 1, 5), (great ** 2, -5, -1)], great, False)

    def test_many_differences(self):
        terms = [(10 ** 20 + 39, -10 ** 6, 10 ** 6), (10 ** 20 + 129, -10 ** 6, 10 ** 6),
                 (10 ** 20 + 151, -10 ** 6, 10 ** 6)]
        with self.assertRaises(LimitExceeded) as caught:
            Sums(terms).values_for(1)
        self.assertEqual(caught.exception.word, "differences")
        for bounds in [(1250, 2, 2), (17, 17, 17), (36, 34, 2, 2), (11, 11, 10, 2, 2), (6, 6, 6, 5, 4)]:
            terms = [(10 ** 20 + 10 ** (3 * at) + 7, 1 - bound, bound - 1) for at, bound in enumerate(bounds)]
            self.check(terms, 1, False)


if __name__ == "__main__":
    unittest.main()
