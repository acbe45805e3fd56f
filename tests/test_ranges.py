"""Point 8, and the interface of farmisses/ranges.py."""

import inspect
import unittest

import oracle
from farmisses.caches import Cache
from farmisses.errors import InvalidNumber, OutOfRange
from farmisses.machine import accesses, plain
from farmisses.programs import Program
from farmisses.ranges import fits

CACHE = Cache(1, ((1, 1, "used", "back"),))
NO_NUMBERS = [-1, 10 ** 60 + 1, None, True, False, "4", "", 1.0, 2.5, (4,), [4], {}, b"4"]


def outside(program, n):
    """The field of OutOfRange of accesses and of plain, None if there is none."""
    told = []
    for call in [lambda: plain(program, CACHE, n), lambda: next(accesses(program, n), None)]:
        try:
            call()
            told.append(None)
        except OutOfRange as error:
            told.append(error.access)
    assert told[0] == told[1], told
    return told[0]


class FitsTest(unittest.TestCase):

    def check(self, text, n, access):
        program = Program.read(text)
        self.assertIs(fits(program, n), access is None, (text, n))
        self.assertEqual(outside(program, n), access, (text, n))

    def test_the_end_of_an_array(self):
        for n in [1, 2, 7]:
            self.check("array a n for i n { read a[i] }", n, None)
            self.check("array a n for i n { read a[i + 1] }", n, 0)
            self.check("array a n for i n - 1 { read a[i + 1] }", n, None)
            self.check("array a n read a[n - 1]", n, None)
            self.check("array a n read a[n]", n, 0)

    def test_below_zero(self):
        self.check("array a n read a[-1]", 5, 0)
        self.check("array a n for i n { read a[n - 1 - i] }", 5, None)
        self.check("array a n for i n { read a[n - 2 - i] }", 5, 0)
        self.check("array a n for i n { read a[i - 1] }", 5, 0)
        self.check("array a n for i n { for k n { read a[2*i + k - 2] } }", 1, 0)
        self.check("array a 3*n for i n { for k n { read a[2*i - k - 1] } }", 5, 0)
        self.check("array a 3*n for i n { for k n { read a[2*i - k + n - 1] } }", 5, None)
        self.check("array a n*n for i n { for k n { read a[n*n - n - n*i + k] } }", 5, None)
        self.check("array a n*n for i n { for k n { read a[n*n - n - n*i - k] } }", 5, 0)

    def test_the_first_one_in_the_text(self):
        text = "array a n array b n for i n { read a[i] write b[i + 1] } read a[n] read a[0]"
        self.check(text, 5, 1)
        self.check("array a n for i n { read a[0] flush for k n { write a[k] read a[k + 1] } } read a[n]", 3, 2)
        self.check("array a 4 array b n read b[3] read a[4]", 3, 0)

    def test_loops_without_rounds(self):
        self.check("array a n for i n - 5 { read a[i + 100] }", 5, None)
        self.check("array a n for i n - 5 { read a[i + 100] }", 3, None)
        self.check("array a n for i n - 5 { read a[i + 100] }", 6, 0)
        self.check("array a n for i n { for k 0 { read a[n] } }", 6, None)
        self.check("array a n for k 0 { for i n { read a[n] } } read a[n]", 6, 1)
        self.check("array a n for i -3 { for k n { read a[n] } } read a[0]", 6, None)

    def test_arrays_without_cells(self):
        self.check("array a n read a[0]", 0, 0)
        self.check("array a n - 9 read a[0]", 3, 0)
        self.check("array a n - 9 for i n - 9 { read a[i] }", 3, None)
        self.check("array a 0 array b 1 read b[0]", 3, None)
        self.check("array a n - 9 read a[n - 10]", 3, 0)

    def test_great_numbers(self):
        text = "array a n*n*n for i n { for j n { for k n { read a[n*n*i + n*j + k] } } }"
        for n in [10 ** 60, 10 ** 60 - 1, 10 ** 30 + 7]:
            program = Program.read(text)
            self.assertIs(fits(program, n), True)
            self.assertEqual(next(accesses(program, n)), (0, "a", 0))
            self.assertIs(fits(Program.read(text.replace("+ k", "+ k + 1")), n), False)
            self.check("array a n*n for i n { for j n { write a[n*i + j] read a[n*n - n*i - j] } }", n, 1)

    def test_numbers(self):
        for text in ["array a n read a[0]", "array a n read a[n]", ""]:
            program = Program.read(text)
            for n in NO_NUMBERS:
                for call in [lambda: fits(program, n), lambda: list(accesses(program, n)),
                             lambda: plain(program, CACHE, n)]:
                    with self.assertRaises(InvalidNumber) as caught:
                        call()
                    self.assertIs(caught.exception.value, n)
        self.assertIs(fits(Program.read(""), 0), True)
        self.assertIs(fits(Program.read(""), 10 ** 60), True)

    def test_against_playing(self):
        random_ = oracle.generator(8)
        seen = set()
        for _ in range(300):
            program = oracle.some_program(random_, bounds=("n", "n - 2", "3 - n", "2"))
            text = program.tree()
            arrays = tuple((name, (random_.choice([9, 20, 41]), random_.choice([1, 3]))) for name, _ in text[0])
            program = Program((arrays, text[1]))
            for n in range(5):
                expected = oracle.fits(program.tree(), n)
                self.assertEqual(fits(program, n), expected is None, (program.tree(), n))
                if expected is not None:
                    # By playing, the first one in the text is the least number.
                    self.assertEqual(outside(program, n), expected)
                seen.add(expected)
        self.assertGreater(len(seen), 3)

    def test_interface(self):
        self.assertEqual(str(inspect.signature(fits)), "(program, n)")
        self.assertIs(fits(n=3, program=Program.read("")), True)


if __name__ == "__main__":
    unittest.main()
