"""Points 3 (g) and 20, and the interface of farmisses/blocks.py."""

import inspect
import unittest

import nests
import oracle
from farmisses import blocks
from farmisses.blocks import blocked, cut
from farmisses.errors import InvalidBlocks, TooLarge
from farmisses.machine import accesses
from farmisses.orders import nest
from farmisses.printing import show
from farmisses.programs import Program

TEXT = "array a 99*n array b 9 for i 12*n { for j 6 { read a[n*i + 2*j + 1] write b[j] flush } }"
NO_COUNTERS = [None, True, 0, "", "k", "a", "n", "i ", b"i", ["i"], ("i",), {"i": 1}, "array", ()]
NO_SIZES = [None, True, False, 0, 1, -1, -2, -12, 5, 7, 24, "2", (2,), [2], 2.0, 10 ** 60]
NO_OUTERS = [None, True, 0, "", "i", "j", "a", "b", "n", "for", "I", "2", "x y", "_", "x-", b"x", ["x"], ("x",), {}]


class BlocksCase(unittest.TestCase):

    def told(self, call, kind):
        with self.assertRaises(kind) as caught:
            call()
        self.assertIs(type(caught.exception), kind)
        fields = list(vars(caught.exception).values())
        self.assertEqual(len(fields), 1)
        return fields[0]


class BlockedTest(BlocksCase):

    def check(self, text, triple, wanted):
        program = Program.read(text)
        made = blocked(program, *triple)
        self.assertIsInstance(made, Program)
        self.assertEqual(show(made.tree()), show(Program.read(wanted).tree()))
        self.assertEqual(made, Program.read(wanted))
        self.assertEqual(program, Program.read(text))
        self.assertEqual(cut(program, (triple,)), made)

    def test_blocked(self):
        self.check(TEXT, ("i", 4, "k"), "array a 99*n array b 9 for k 3*n { for i 4 { for j 6 { "
                   "read a[n*i + 4*n*k + 2*j + 1] write b[j] flush } } }")
        self.check(TEXT, ("j", 2, "c"), "array a 99*n array b 9 for i 12*n { for c 3 { for j 2 { "
                   "read a[n*i + 4*c + 2*j + 1] write b[j + 2*c] flush } } }")
        self.check(TEXT, ("j", 6, "c"), "array a 99*n array b 9 for i 12*n { for c 1 { for j 6 { "
                   "read a[n*i + 12*c + 2*j + 1] write b[j + 6*c] flush } } }")
        self.check("for i 4*n*n - 6*n + 10 { }", ("i", 2, "o"), "for o 2*n*n - 3*n + 5 { for i 2 { } }")
        # A bound without parts is a multiple of all sizes.
        self.check("array a 9 for i n - n { read a[-i] }", ("i", 10 ** 9, "o"),
                   f"array a 9 for o 0 {{ for i {10 ** 9} {{ read a[-i - {10 ** 9}*o] }} }}")
        self.check("array a 9 for i -6 { write a[i - 3] }", ("i", 3, "o"),
                   "array a 9 for o -2 { for i 3 { write a[i + 3*o - 3] } }")

    def test_the_same_accesses_in_the_same_order(self):
        random_ = oracle.generator(200)
        done = 0
        for _ in range(150):
            program = nests.some_nest(random_, random_.choice([1, 2, 3]), bounds=("2*n", "4", "6*n - 12", "2", "n"))
            made = program
            for size, outer in zip(random_.choices([2, 2, 4, 3], k=2), ("o", "p")):
                counter = random_.choice(nest(made))
                try:
                    made = blocked(made, counter, size, outer)
                except InvalidBlocks:
                    continue
                done += 1
                self.assertEqual(len(nest(made)), len(nest(program)) + ("o" in nest(made)) + ("p" in nest(made)))
            for n in [2, 3]:
                self.assertEqual(list(accesses(made, n)), list(accesses(program, n)))
        self.assertGreater(done, 120)

    def test_invalid_values(self):
        program = Program.read(TEXT)
        for value in NO_COUNTERS:
            for size, outer in [(2, "k"), (None, None), (5, "i")]:
                self.assertIs(self.told(lambda: blocked(program, value, size, outer), InvalidBlocks), value)
        for value in NO_SIZES:
            for outer in ["k", None, "i"]:
                self.assertIs(self.told(lambda: blocked(program, "i", value, outer), InvalidBlocks), value)
        self.assertEqual(self.told(lambda: blocked(program, "j", 4, "k"), InvalidBlocks), 4)
        self.assertEqual(self.told(lambda: blocked(Program.read("for i 4*n + 2 { }"), "i", 4, "k"), InvalidBlocks), 4)
        for value in NO_OUTERS:
            self.assertIs(self.told(lambda: blocked(program, "i", 2, value), InvalidBlocks), value)

    def test_programs_that_are_no_nests(self):
        for text in ["", "flush", "for i 4 { } flush", "for i 4 { } for j 4 { }", "for i 4 { for j 2 { } flush }"]:
            program = Program.read(text)
            for value in ["i", "j", None]:
                self.assertIs(self.told(lambda: blocked(program, value, 2, "k"), InvalidBlocks), value)
                self.assertIs(self.told(lambda: cut(program, ((value, 2, "k"),)), InvalidBlocks), value)
            self.assertEqual(cut(program, ()), program)

    def test_too_large(self):
        five = Program.read("for a 2 { for b 2 { for c 2 { for d 2 { for e 2 { } } } } }")
        self.assertEqual(self.told(lambda: blocked(five, "c", 2, "x"), TooLarge), "nesting")
        self.assertEqual(self.told(lambda: blocked(five, "c", 2, "a"), InvalidBlocks), "a")
        many = Program.read("for a 2 { " + "flush " * 39 + "}")
        self.assertEqual(self.told(lambda: blocked(many, "a", 2, "x"), TooLarge), "statements")
        self.assertEqual(len(blocked(Program.read("for a 2 { " + "flush " * 38 + "}"), "a", 2, "x").body[0][3][0][3]), 38)
        great = 10 ** 150 - 1
        wide = Program.read(f"array a {great} for i 4 {{ read a[{great // 3}*i] }}")
        self.assertEqual(self.told(lambda: blocked(wide, "i", 4, "x"), TooLarge), "numbers")
        self.assertEqual(blocked(wide, "i", 2, "x").accesses[0][2][1], (("i", (great // 3,)), ("x", (great // 3 * 2,))))
        self.assertEqual(self.told(lambda: blocked(Program.read("for i 0 { }"), "i", 10 ** 150, "x"), TooLarge), "numbers")
        deep = Program.read(f"array a {great} for i 2 {{ for b 2 {{ for c 2 {{ for d 2 {{ for e 2 {{ "
                            f"read a[{great}*i] }} }} }} }} }}")
        self.assertEqual(self.told(lambda: blocked(deep, "i", 2, "x"), TooLarge), "numbers")


class CutTest(BlocksCase):

    def test_one_after_the_other(self):
        program = Program.read(TEXT)
        cutting = (("i", 6, "k"), ("i", 2, "l"), ("k", 2, "m"))
        made = blocked(blocked(blocked(program, *cutting[0]), *cutting[1]), *cutting[2])
        self.assertEqual(cut(program, cutting), made)
        self.assertEqual(nest(made), ("m", "k", "l", "i", "j"))
        self.assertEqual(cut(program, ()), program)
        self.assertEqual(list(accesses(made, 1)), list(accesses(program, 1)))

    def test_invalid_cuttings(self):
        program = Program.read(TEXT)
        for value in [None, True, 0, "", "ijk", [], [("i", 2, "k")], {}, ((),), (("i", 2),), (("i", 2, "k", 0),),
                      (["i", 2, "k"],), ("i", 2, "k"), ("ijk",), (None,), (("i", 2, "k"), None), (("z", 2, "k"), 5),
                      (("i", 2, "k"), ["i", 2, "l"]), ({"i": 1, "j": 2, "k": 3},)]:
            self.assertIs(self.told(lambda: cut(program, value), InvalidBlocks), value)
        for cutting, value in [((("i", 2, "k"), ("x", 2, "l")), "x"), ((("i", 2, "k"), ("i", 2, "k")), "k"),
                               ((("i", 4, "k"), ("i", 3, "l")), 3), ((("i", 2, "k"), ("k", 2, "i")), "i"),
                               (((None, None, None),), None), ((("i", 5, "k"), ("x", 2, "l")), 5)]:
            self.assertIs(self.told(lambda: cut(program, cutting), InvalidBlocks), value)
        cutting = (("i", 2, "k"), ("i", 2, "l"), ("j", 2, "m"), ("j", 3, "o"))
        self.assertEqual(self.told(lambda: cut(program, cutting), InvalidBlocks), 3)
        cutting = (("i", 2, "k"), ("k", 2, "l"), ("j", 2, "m"), ("j", 2, "o"))
        self.assertEqual(self.told(lambda: cut(program, cutting), TooLarge), "nesting")

    def test_parameters(self):
        for name, parameters in [("blocked", ["program", "counter", "size", "outer"]), ("cut", ["program", "cutting"])]:
            self.assertEqual(list(inspect.signature(getattr(blocks, name)).parameters), parameters)
            self.assertEqual(getattr(blocks, name).__module__, "farmisses.blocks")


if __name__ == "__main__":
    unittest.main()
