"""Point 16: formulas, their papers and what told_formula tells are what they were, and take less.

Each line of formulas_were.txt has a cache and a program, and a digest of what was told of them before
ways were made faster (records.py tells of what).
"""

import pathlib
import sys
import unittest

import oracle
import records
from farmisses.caches import Cache
from farmisses.far import FarNumbers
from farmisses.formulas import formula
from farmisses.programs import Program

FILE = pathlib.Path(__file__).resolve().parent / "formulas_were.txt"


class WereTest(unittest.TestCase):

    def test_what_they_were(self):
        lines = FILE.read_text(encoding="ascii").splitlines()
        self.assertEqual(len(lines), 190)
        for line in lines:
            digest, cache, program = line.split("|")
            self.assertEqual(records.digest(program, cache), digest, (program, cache))

    def test_there_are_many_kinds(self):
        lines = [line.split("|") for line in FILE.read_text(encoding="ascii").splitlines()]
        for word in oracle.RULES + ["back", "through"]:
            self.assertGreater(len([cache for _, cache, _ in lines if word in cache]), 40, word)
        for word in ["read", "write", "flush", "array b", "{ for"]:
            self.assertGreater(len([program for _, _, program in lines if word in program.replace(" i1", "")]), 20, word)
        self.assertGreater(len([cache for _, cache, _ in lines if cache.count("level") > 1]), 40)
        self.assertGreater(len({digest for digest, _, _ in lines}), 170)


class CallsTest(unittest.TestCase):

    def calls_of(self, program, cache):
        """How many functions a formula calls; they are counted instead of the time, which is another one each time."""
        made = [0]

        def note(frame, event, argument):
            made[0] += event == "call"
        program, cache = Program.read(program), Cache.read(cache)
        sys.setprofile(note)
        try:
            formula(program, cache)
        finally:
            sys.setprofile(None)
        return made[0]

    def test_calls(self):
        # They were 147088, 17052 and 7801.
        nest = "array a n*n for {} n {{ for {} n {{ read a[n*i + j] }} }}"
        for program, cache, most in [("array a 192*n for i 3*n { read a[64*i] }", "line 8 level 8 3 second back", 50000),
                                     (nest.format("j", "i"), "line 2 level 2 1 used back", 8500),
                                     (nest.format("i", "j"), "line 2 level 2 1 used back", 4300)]:
            self.assertLess(self.calls_of(program, cache), most, program)


class SeenTest(unittest.TestCase):

    def lines(self, random_, many, width):
        """Lines of three arrays that have near parts and far ones, not all of them far away from one another."""
        found = []
        for _ in range(many):
            far = random_.choice([0, 0, 1, 1, 2, 3, 1 << width, (1 << width) - 2])
            found.append((random_.randrange(3), random_.randint(-40, 40) + (far << width)))
        return found

    def test_few_and_many_lines_are_seen_alike(self):
        random_ = oracle.generator(161)
        width = 60
        seen = set()
        for number in range(300):
            together = random_.choice([1, 1, 2, 6])
            lines = self.lines(random_, random_.choice([2, 5, 12, 13, 14, 30]), width)
            one, other, third = [FarNumbers(width, together) for _ in range(3)]
            one.see_lines(lines)
            other.see_lines(lines + lines + lines + [(9, 0)] * 13)
            for at, (array, line) in enumerate(lines):
                third.see_apart(line, [before for owner, before in lines[:at] if owner == array])
            least = one.least()
            self.assertEqual((least, other.least(), third.least()), (least,) * 3)
            seen.add(least)
            # Moved alike, they lie as far apart as they did.
            moved = FarNumbers(width, together)
            moves = [together * random_.randint(-9, 9) + (random_.choice([0, 1, 5]) << width) for _ in range(3)]
            moved.see_lines([(array, line + moves[array]) for array, line in lines])
            self.assertEqual(moved.least(), least)
        self.assertGreater(len(seen), 20)

    def test_too_many_numbers_are_forgotten(self):
        numbers = FarNumbers(60, 1)
        far = 1 << 60
        numbers.see_apart(0, [far - 50] + [far + number for number in range(3000)] + [far - 20])
        self.assertEqual(numbers.least(), 51)
        for number in range(2500):
            numbers.see_above(far - number % 77)
        self.assertEqual(numbers.least(), 77)


if __name__ == "__main__":
    unittest.main()
