"""The numbers of point 16: sizes in m, kept as values for a great m."""

import unittest

from farmisses.far import FarNumbers, least_above, parts_of, width_for
from farmisses.programs import Program


def value(parts, width):
    return sum(part << (width * power) for power, part in enumerate(parts))


class PartsTest(unittest.TestCase):

    def test_parts(self):
        for width in [8, 20, 400]:
            top = (1 << (width - 1)) - 1
            for parts in [(), (1,), (-1,), (0, 1), (-1, 1), (0, 0, -3), (top, -top, top), (-top, -top, 1), (5, 0, 0, -1)]:
                self.assertEqual(parts_of(value(parts, width), width), parts)

    def test_width(self):
        for text, part in [("", 0), ("array a 5", 5), ("for i -9 { }", 9), ("array a n read a[7*n*n - 100]", 100),
                           ("array a n for i n { read a[300*n*i] }", 300)]:
            self.assertEqual(width_for(Program.read(text)), 5 * part.bit_length() + 250)


class LeastTest(unittest.TestCase):

    def check(self, parts, least):
        self.assertEqual(least_above(parts), least)
        for m in [least, least + 1, least + 2, least + 100, 10 ** 30 + least]:
            self.assertGreater(sum(part * m ** power for power, part in enumerate(parts)), 0)

    def test_constants_and_lines(self):
        self.check((1,), 0)
        self.check((0, 1), 1)
        self.check((-1, 1), 2)
        self.check((-10, 3), 4)
        self.check((-9, 3), 4)
        self.check((-8, 3), 3)
        self.check((7, 3), 0)
        self.check((-10 ** 70, 1), 10 ** 70 + 1)

    def test_powers(self):
        self.check((-100, 0, 1), 11)
        self.check((-99, 0, 1), 10)
        self.check((100, -30, 1), 27)
        self.check((0, -1, 0, 1), 2)
        self.check((5, 0, 0, 2), 0)

    def test_it_holds_from_there_on(self):
        for parts in [(17, -11, 1), (1, -6, 3), (-4, 40, -14, 1), (1, 0, -5, 1), (-100, 3, 3, 3), (30, -11, 1)]:
            least = least_above(parts)
            values = [sum(part * m ** power for power, part in enumerate(parts)) for m in range(200)]
            self.assertTrue(all(number > 0 for number in values[least:]))
            # It is not far behind the last one that is not above 0, or that is above the next one.
            late = [m for m in range(199) if values[m] <= 0 or values[m + 1] < values[m]]
            self.assertLessEqual(least, max(late) + 8)


class NumbersTest(unittest.TestCase):

    def test_lines_that_meet(self):
        width = 50
        for lines, least in [([(3,), (9,)], 0), ([(3,), (9, 1)], 0), ([(3,), (0, 1)], 4), ([(3,), (-2, 1), (8, 1)], 6),
                             ([(3,), (40, -2)], 19), ([(0, 1), (-7, 2), (5,)], 8), ([(0, 0, 1), (90, 1)], 11)]:
            numbers = FarNumbers(width, 1)
            numbers.see_lines([(0, value(line, width)) for line in lines] + [(1, 5)])
            self.assertEqual(numbers.least(), least, lines)
            numbers = FarNumbers(width, 1)
            for line in lines:
                numbers.see_apart(value(line, width), [value(other, width) for other in lines])
            self.assertEqual(numbers.least(), least, lines)

    def test_lines_of_two_arrays_do_not_meet(self):
        numbers = FarNumbers(50, 1)
        numbers.see_lines([(0, 5), (1, value((0, 1), 50))])
        self.assertEqual(numbers.least(), 0)

    def test_lines_of_different_sets_do_not_meet(self):
        for lines, least in [([(3,), (0, 6)], 0), ([(3,), (1, 6)], 1), ([(20,), (7, 6), (2, 6)], 4),
                             ([(21,), (7, 6), (2, 6)], 3), ([(20,), (0, 6), (22,)], 4), ([(20,), (21,), (0, 6)], 4)]:
            numbers = FarNumbers(50, 2)
            numbers.see_lines([(0, value(line, 50)) for line in lines])
            self.assertEqual(numbers.least(), least, lines)
            numbers = FarNumbers(50, 2)
            for line in lines:
                numbers.see_apart(value(line, 50), [value(other, 50) for other in lines])
            self.assertEqual(numbers.least(), least, lines)

    def test_numbers_above_zero(self):
        numbers = FarNumbers(50, 1)
        numbers.see_above(value((-10, 1), 50))
        numbers.see_above(value((-5, 1), 50))
        numbers.see_above(4)
        self.assertEqual(numbers.least(), 11)

    def test_rounds(self):
        numbers = FarNumbers(50, 1)
        for parts, many, goes in [((5,), 3, True), ((5, 6), 3, True), ((5, 6), 4, False), ((5, 6, 4), 3, False),
                                  ((5, 6, -9), 3, True), ((1, 8, 12), 4, True)]:
            self.assertIs(numbers.goes_into(value(parts, 50), many), goes)


if __name__ == "__main__":
    unittest.main()
