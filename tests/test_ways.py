"""The ways of point 14 as far as only the package itself uses them."""

import unittest

from farmisses.caches import Cache
from farmisses.programs import Program
from farmisses.walks import count
from farmisses.ways import NearNumbers, NoCase, Search

FOUR = Cache.read("line 4 level 2 2 used back")
SWEEP = Program.read("array a n for i n { write a[i] }")


class Choosy(NearNumbers):
    """Numbers for which only some returns go into the rounds."""

    def __init__(self, takes):
        self.takes = takes

    def goes_into(self, rounds, many):
        return self.takes(many)


class SearchTest(unittest.TestCase):

    def test_another_return_is_looked_for(self):
        for divisor, shortest in [(1, 8), (8, 8), (16, 16)]:
            way = Search(SWEEP, FOUR, 1000, Choosy(lambda many, divisor=divisor: many % divisor == 0))
            way.play_block(way.block)
            [(_, many)] = way.entries
            self.assertEqual(many, shortest)
            self.assertEqual(way.memory.tally, count(SWEEP, FOUR, 1000))

    def test_none_will_do(self):
        for takes in [lambda many: False, lambda many: many % 3 == 1 and many < 9]:
            way = Search(SWEEP, FOUR, 1000, Choosy(takes))
            self.assertRaises(NoCase, way.play_block, way.block)
            # This is known long before the loop is at its end.
            self.assertLess(way.steps, 200)


if __name__ == "__main__":
    unittest.main()
