"""Point 4 and the interface of farmisses/sizes.py."""

import inspect
import random
import unittest

from farmisses import sizes
from farmisses.sizes import Size


def value_at(parts, n):
    return sum(part * n ** power for power, part in enumerate(parts))


def some_parts(chance):
    return tuple(chance.randint(-3, 3) for _ in range(chance.randint(0, 4)))


class SizesTest(unittest.TestCase):

    def test_example_of_the_document(self):
        n = Size((0, 1))
        self.assertEqual(
            ((n * n + 3).coefficients, (n - n).coefficients, (n * n - n)(10),
             (n + 1)(n * 2).coefficients),
            ((3, 0, 1), (), 90, (1, 2)))

    def test_interface(self):
        self.assertEqual(Size.__module__, "farmisses.sizes")
        for name in ["__init__", "__add__", "__sub__", "__mul__", "__neg__", "__call__", "__eq__"]:
            self.assertTrue(inspect.isfunction(vars(Size)[name]), name)
        for name in ["coefficients", "degree"]:
            self.assertIsInstance(vars(Size)[name], property)
        self.assertEqual(Size().coefficients, ())
        self.assertEqual(Size(parts=(1, 2)).coefficients, (1, 2))
        self.assertEqual(Size((1, 2))(n=5), 11)

    def test_noughts_at_the_end_are_left_out(self):
        for given, kept in [((), ()), ((0,), ()), ((0, 0, 0), ()), ((3, 0, 2), (3, 0, 2)),
                            ((3, 0, 2, 0, 0), (3, 0, 2)), ((0, 0, -1), (0, 0, -1)),
                            ((10 ** 200, 0), (10 ** 200,))]:
            self.assertEqual(Size(given).coefficients, kept)
            self.assertIs(type(Size(given).coefficients), tuple)

    def test_degree(self):
        for parts, degree in [((), 0), ((0, 0), 0), ((7,), 0), ((0, 1), 1), ((1, 1, 0), 1),
                              ((0, 0, 0, -2), 3), ((0,) * 9 + (1,), 9)]:
            self.assertEqual(Size(parts).degree, degree)

    def test_properties_cannot_be_assigned(self):
        size = Size((1, 2))
        for name in ["coefficients", "degree"]:
            with self.assertRaises(AttributeError):
                setattr(size, name, 0)
        self.assertEqual((size.coefficients, size.degree), ((1, 2), 1))

    def test_sums_that_cancel(self):
        n = Size((0, 1))
        self.assertEqual((n * n * n + n - n * n * n).coefficients, (0, 1))
        self.assertEqual((n + -n).coefficients, ())
        self.assertEqual((n * 0).coefficients, ())
        self.assertEqual((n * Size()).coefficients, ())
        self.assertEqual((Size((5,)) - 5).coefficients, ())
        self.assertEqual((-Size()).coefficients, ())

    def test_products_of_high_degree(self):
        cube = Size((0, 0, 0, 2))
        self.assertEqual((cube * cube).coefficients, (0,) * 6 + (4,))
        self.assertEqual((Size((1, 1)) * Size((1, -1))).coefficients, (1, 0, -1))

    def test_integers_on_the_right(self):
        size = Size((1, 0, 4))
        self.assertEqual((size + 2).coefficients, (3, 0, 4))
        self.assertEqual((size - 2).coefficients, (-1, 0, 4))
        self.assertEqual((size * -2).coefficients, (-2, 0, -8))
        self.assertEqual((Size() + 0).coefficients, ())
        self.assertEqual((Size() + 10 ** 60).coefficients, (10 ** 60,))

    def test_other_operands_are_refused(self):
        size = Size((1, 2))
        for other in [True, False, None, "1", (1,), [1], 1.0]:
            with self.assertRaises(TypeError):
                size + other
            with self.assertRaises(TypeError):
                size - other
            with self.assertRaises(TypeError):
                size * other

    def test_operands_do_not_change(self):
        one, other = Size((1, 2)), Size((3, 0, 5))
        results = [one + other, one - other, one * other, -one, one(other), one(7)]
        self.assertEqual(len(results), 6)
        self.assertEqual((one.coefficients, other.coefficients), ((1, 2), (3, 0, 5)))

    def test_value_for_an_integer(self):
        size = Size((-1, 0, 3))
        self.assertEqual([size(0), size(1), size(-2), size(10 ** 60)],
                         [-1, 2, 11, 3 * 10 ** 120 - 1])
        self.assertEqual(Size()(5), 0)
        self.assertIs(type(Size()(5)), int)
        self.assertIs(type(Size((4,))(5)), int)

    def test_value_for_a_size_is_a_size(self):
        for parts in [(), (4,), (0, 1), (1, 2, 3)]:
            for inner in [(), (2,), (1, 1)]:
                value = Size(parts)(Size(inner))
                self.assertIsInstance(value, Size)
                self.assertEqual(value(7), Size(parts)(Size(inner)(7)))
        self.assertEqual(Size((0, 0, 1))(Size((3, 2))).coefficients, (9, 12, 4))

    def test_equality(self):
        self.assertTrue(Size((1, 2)) == Size((1, 2, 0)))
        self.assertFalse(Size((1, 2)) != Size((1, 2, 0)))
        self.assertFalse(Size((1, 2)) == Size((1, 2, 1)))
        self.assertTrue(Size() == Size((0,)))
        for other in [3, (3,), "3", None, 3.0, [3], (0, 3)]:
            self.assertFalse(Size((3,)) == other)
            self.assertTrue(Size((3,)) != other)
        self.assertFalse(Size() == 0)
        self.assertFalse(Size() == ())

    def test_operators_agree_with_values(self):
        chance = random.Random(4)
        for _ in range(300):
            one, other = some_parts(chance), some_parts(chance)
            number, n = chance.randint(-5, 5), chance.randint(-9, 9)
            left, right = Size(one), Size(other)
            a, b = value_at(one, n), value_at(other, n)
            self.assertEqual(left(n), a)
            self.assertEqual([(left + right)(n), (left - right)(n), (left * right)(n), (-left)(n)],
                             [a + b, a - b, a * b, -a])
            self.assertEqual([(left + number)(n), (left - number)(n), (left * number)(n)],
                             [a + number, a - number, a * number])
            self.assertEqual(left(right)(n), value_at(one, b))
            for size in [left + right, left - right, left * right, left(right)]:
                self.assertNotEqual(size.coefficients[-1:], (0,))

    def test_is_integer(self):
        for value in [0, -1, 10 ** 60]:
            self.assertTrue(sizes.is_integer(value))
        for value in [True, False, None, 1.0, "1", (1,)]:
            self.assertFalse(sizes.is_integer(value))


if __name__ == "__main__":
    unittest.main()
