"""Point 7, and the interface of farmisses/programs.py."""

import inspect
import unittest

from farmisses.errors import (DuplicateName, InvalidNumber, InvalidSyntax, InvalidText, InvalidTree, TooLarge,
                              UnknownName)
from farmisses.printing import show
from farmisses.programs import Program
from farmisses.texts import parse, parse_block

TEXT = """array a n*n array b n
for i n { for j n - 1 { read a[n*i + j + 1] write b[i] } flush } read b[0]"""
GREATEST = 10 ** 150 - 1


def tree_of(text):
    return parse(text)


def loops(many, inner=()):
    block = inner
    for depth in reversed(range(many)):
        block = (("for", f"i{depth}", (3,), block),)
    return block


def access(index=((), ()), array="a", word="read"):
    return (word, array, index)


class ProgramCase(unittest.TestCase):

    def told(self, call, kind):
        with self.assertRaises(kind) as caught:
            call()
        self.assertIs(type(caught.exception), kind)
        fields = list(vars(caught.exception).values())
        self.assertEqual(len(fields), 1)
        return fields[0]

    def check_large(self, tree, word):
        self.assertEqual(self.told(lambda: Program(tree), TooLarge), word)


class TellsTest(ProgramCase):

    def test_what_a_program_tells(self):
        program = Program.read(TEXT)
        self.assertEqual(program.arrays, ("a", "b"))
        self.assertEqual(program.tree(), parse(TEXT))
        self.assertEqual(program.body, parse(TEXT)[1])
        self.assertEqual(program.accesses, (
            ("read", "a", ((1,), (("i", (0, 1)), ("j", (1,))))),
            ("write", "b", ((), (("i", (1,)),))),
            ("read", "b", ((), ()))))
        self.assertEqual(program.counters(), ["i", "j"])
        self.assertEqual(len(program), 3)
        self.assertEqual(program.size_of("a"), (0, 0, 1))
        self.assertEqual(program.size_of("b"), (0, 1))

    def test_empty(self):
        program = Program(((), ()))
        self.assertEqual((program.arrays, program.body, program.accesses, program.counters(), len(program)),
                         ((), (), (), [], 0))

    def test_equal_counters_are_told_again(self):
        self.assertEqual(Program.read("for i 2 { for k 2 { } } for i 3 { }").counters(), ["i", "k", "i"])

    def test_lists_are_new(self):
        program = Program.read(TEXT)
        program.counters().append("k")
        self.assertEqual(program.counters(), ["i", "j"])

    def test_membership(self):
        program = Program.read(TEXT)
        self.assertIs("a" in program, True)
        for value in ["c", "i", "", None, 0, True, ["a"], {"a": 1}, ("a",), b"a", 1.5, set()]:
            self.assertIs(value in program, False, value)

    def test_size_of_other_values(self):
        program = Program.read(TEXT)
        for value in ["c", "i", "", None, 0, True, ["a"], {}, ("a",), b"a"]:
            self.assertEqual(self.told(lambda value=value: program.size_of(value), UnknownName), value)

    def test_equality(self):
        self.assertEqual(Program.read(TEXT), Program(parse(TEXT)))
        self.assertNotEqual(Program.read(TEXT), Program.read(TEXT.replace("j + 1", "j")))
        self.assertNotEqual(Program.read("array a n"), Program.read("array a 2*n"))
        for value in [None, 0, TEXT, parse(TEXT), []]:
            self.assertNotEqual(Program.read(TEXT), value)

    def test_example(self):
        program = Program.read("array a n*n array b n for i n { for j n - 1 { read a[n*i + j + 1] write b[i] } }")
        self.assertEqual(
            (program.counters(), program.accesses[1], show(program.fixed(4).tree())),
            (["i", "j"], ("write", "b", ((), (("i", (1,)),))),
             "array a 16\narray b 4\nfor i 4 {\n  for j 3 {\n    read a[4*i + j + 1]\n    write b[i]\n  }\n}\n"))

    def test_interface(self):
        self.assertEqual(str(inspect.signature(Program)), "(tree)")
        for name, names in [("read", "(text)"), ("tree", "(self)"), ("size_of", "(self, array)"),
                            ("counters", "(self)"), ("replaced", "(self, block)"), ("fixed", "(self, n)"),
                            ("__len__", "(self)"), ("__eq__", "(self, other)")]:
            self.assertIn(name, vars(Program))
            if name != "read":
                self.assertEqual(str(inspect.signature(vars(Program)[name])), names)
        self.assertIn("__contains__", vars(Program))
        self.assertIsInstance(vars(Program)["read"], classmethod)
        self.assertEqual(Program.read(text="array a n"), Program(tree=parse("array a n")))
        for name in ["arrays", "body", "accesses"]:
            self.assertIsInstance(vars(Program)[name], property)


class ReplacedTest(ProgramCase):

    def test_replaced(self):
        program = Program.read(TEXT)
        other = program.replaced(parse_block("for k n { write b[k] }"))
        self.assertEqual(other, Program.read("array a n*n array b n for k n { write b[k] }"))
        self.assertEqual(program, Program.read(TEXT))

    def test_replaced_raises_with_the_tree(self):
        program = Program.read(TEXT)
        for block in [None, [], [("flush",)], (("flush", 1),), "flush", loops(31)]:
            arrays = (("a", (0, 0, 1)), ("b", (0, 1)))
            self.assertEqual(self.told(lambda block=block: program.replaced(block), InvalidTree), (arrays, block))
        self.assertEqual(self.told(lambda: program.replaced(loops(6)), TooLarge), "nesting")
        self.assertEqual(self.told(lambda: program.replaced((access(array="c"),)), UnknownName), "c")
        self.assertEqual(self.told(lambda: program.replaced((("for", "b", (), ()),)), DuplicateName), "b")


class FixedTest(ProgramCase):

    def test_factors_that_vanish(self):
        program = Program.read("array a n for i n - 4 { for k n { read a[n*i - 4*i + n*k + n - 4] } }")
        self.assertEqual(program.fixed(4).tree(), tree_of("array a 4 for i 0 { for k 4 { read a[4*k] } }"))
        self.assertEqual(program.fixed(3).tree(), tree_of("array a 3 for i -1 { for k 3 { read a[3*k - 1*i - 1] } }"))
        self.assertEqual(program.fixed(0).tree(), tree_of("array a 0 for i -4 { for k 0 { read a[-4*i - 4] } }"))

    def test_flush_and_powers(self):
        program = Program.read("array a 2*n*n*n + n for i n*n { flush }")
        self.assertEqual(program.fixed(3).tree(), ((("a", (57,)),), (("for", "i", (9,), (("flush",),)),)))

    def test_numbers(self):
        program = Program.read("array a n")
        self.assertEqual(program.fixed(10 ** 60).tree(), ((("a", (10 ** 60,)),), ()))
        for n in [-1, 10 ** 60 + 1, None, "4", True, False, 1.0, (4,), []]:
            self.assertEqual(self.told(lambda n=n: program.fixed(n), InvalidNumber), n)

    def test_numbers_that_grow_too_large(self):
        program = Program(((("a", (0, 10 ** 100)),), ()))
        self.assertEqual(program.fixed(10 ** 49).size_of("a"), (10 ** 149,))
        self.assertEqual(self.told(lambda: program.fixed(10 ** 50), TooLarge), "numbers")


class NoTreesTest(ProgramCase):

    def check_no_tree(self, value):
        told = self.told(lambda: Program(value), InvalidTree)
        self.assertIs(told, value)

    def test_other_values(self):
        for value in [None, True, 0, "", "array a n", (), ((),), ((), (), ()), [(), ()], ([], ()), ((), []),
                      ((), None), (None, ()), {}, {"a": 1}, b"", object(), 1.5]:
            self.check_no_tree(value)

    def test_arrays(self):
        for pair in [("a",), ("a", (), ()), ["a", ()], "ab", None, ("n", ()), ("for", ()), ("A", ()), ("", ()),
                     ("1a", ()), (b"a", ()), (None, ()), (1, ()), ("a", None), ("a", []), ("a", 1)]:
            self.check_no_tree(((pair,), ()))
            self.check_no_tree(((("b", ()), pair), ()))

    def test_parts(self):
        for parts in [(0,), (1, 0), (True,), (1, True), (False, 1), (None,), ("1",), [1], 1, None, (1.0,), ((1,),),
                      (0, 0), (1, 2, 0)]:
            self.check_no_tree(((("a", parts),), ()))
            self.check_no_tree(((), (("for", "i", parts, ()),)))
            self.check_no_tree(((("a", (9,)),), (access((parts, ())),)))
            self.check_no_tree(((("a", (9,)),), (("for", "i", (2,), (access(((), (("i", parts),))),)),)))

    def test_statements(self):
        index = ((), ())
        for statement in [(), None, "flush", ["flush"], ("flush", ()), ("flush", None), ("Flush",), (None,), (1,),
                          ("for",), ("for", "i", ()), ("for", "i", (), (), ()), ("for", "i", (), []),
                          ("for", "i", (), None), ("for", "n", (), ()), ("for", 1, (), ()), ["for", "i", (), ()],
                          ("for", "i", (), ((),)), ("read",), ("read", "a"), ("read", "a", index, ()),
                          ["read", "a", index], ("read", "n", index), ("read", None, index), ("read", "a", None),
                          ("write", "a", ()), ("write", "a", ((),)), ("write", "a", [(), ()]),
                          ("write", "a", ((), (), ())), ("write", "a", ((), [])), ("fetch", "a", index),
                          (b"read", "a", index), ("for", "i", (3,), (("flush",), ("flush", 1)))]:
            self.check_no_tree(((("a", (9,)),), (statement,)))
            self.check_no_tree(((("a", (9,)),), (("for", "k", (2,), (("flush",), statement)),)))

    def test_factors(self):
        good = (("i", (1,)), ("k", (0, 2)))
        inner = lambda factors: ((("a", (9,)),), (("for", "i", (2,), (("for", "k", (2,), (access(((), factors)),)),)),))
        self.assertEqual(len(Program(inner(good))), 1)
        for factors in [(("k", (1,)), ("i", (1,))), (("i", (1,)), ("i", (1,))), (("i", ()),), (("i", (0,)),),
                        (("i",),), (("i", (1,), ()),), (["i", (1,)],), [("i", (1,))], ("i",), (None,), None,
                        (("n", (1,)),), ((1, (1,)),), (("i", [1]),), (("i", 1),), (("i", (True,)),)]:
            self.check_no_tree(inner(factors))

    def test_thirty_loops_and_one_more(self):
        self.check_no_tree(((), loops(31)))
        self.check_no_tree(((), (("flush",), *loops(31))))
        self.check_no_tree(((), loops(31, (("flush", 1),))))
        self.check_no_tree(((), loops(30, (("flush", 1),))))
        self.check_no_tree(((), loops(60)))
        self.check_large(((), loops(30)), "nesting")

    def test_no_tree_comes_before_the_rest(self):
        self.check_no_tree(((("a", (10 ** 150,)), ("a", (1,))), (None,)))


class LimitsTest(ProgramCase):

    def test_numbers(self):
        for part in [GREATEST, -GREATEST]:
            Program(((("a", (part,)),), ()))
            Program(((), (("for", "i", (0, part), ()),)))
            Program(((("a", (9,)),), (("for", "i", (2,), (access(((part,), (("i", (part, 1)),))),)),)))
        for part in [GREATEST + 1, -GREATEST - 1]:
            self.check_large(((("a", (part,)),), ()), "numbers")
            self.check_large(((), (("for", "i", (0, part), ()),)), "numbers")
            self.check_large(((("a", (9,)),), (access(((part,), ())),)), "numbers")
            inner = (access(((), (("i", (part, 1)),))),)
            self.check_large(((("a", (9,)),), (("for", "i", (2,), inner),)), "numbers")

    def test_degree(self):
        four = (0, 0, 0, 0, 1)
        Program(((("a", four[1:]),), (("for", "i", four[1:], (access((four[1:], (("i", four[1:]),))),)),)))
        self.check_large(((("a", four),), ()), "degree")
        self.check_large(((), (("for", "i", four, ()),)), "degree")
        self.check_large(((("a", (9,)),), (access((four, ())),)), "degree")
        self.check_large(((("a", (9,)),), (("for", "i", (2,), (access(((), (("i", four),))),)),)), "degree")

    def test_arrays(self):
        arrays = tuple((f"a{at}", (1,)) for at in range(9))
        Program((arrays[:8], ()))
        self.check_large((arrays, ()), "arrays")

    def test_statements(self):
        flush = ("flush",)
        Program(((), (flush,) * 40))
        Program(((), (("for", "i", (2,), (flush,) * 38), flush)))
        self.check_large(((), (flush,) * 41), "statements")
        self.check_large(((), (("for", "i", (2,), (flush,) * 39), flush)), "statements")

    def test_accesses(self):
        arrays = (("a", (9,)),)
        Program((arrays, (access(),) * 20))
        self.check_large((arrays, (access(),) * 21), "accesses")
        self.check_large((arrays, (("for", "i", (2,), (access(),) * 10), *(access(word="write"),) * 11)), "accesses")

    def test_nesting(self):
        Program(((), loops(5)))
        self.check_large(((), loops(6)), "nesting")
        self.check_large(((), (("flush",), *loops(5), *loops(6))), "nesting")

    def test_the_order_of_the_words(self):
        arrays = (("a", (9,)), *((f"a{at}", (1,)) for at in range(8)))
        block = [("for", "i", (10 ** 150,), ()), ("for", "i", (0, 0, 0, 0, 1), ()), *((access(),) * 21),
                 *((("flush",),) * 20), *loops(6)]
        self.check_large((arrays, tuple(block)), "numbers")
        self.check_large((arrays, tuple(block[1:])), "degree")
        self.check_large((arrays, tuple(block[2:])), "arrays")
        self.check_large((arrays[:8], tuple(block[2:])), "statements")
        self.check_large((arrays[:8], tuple(block[2:23] + block[-1:])), "accesses")
        self.check_large((arrays[:8], tuple(block[-1:])), "nesting")
        self.check_large((arrays[:1] * 2, tuple(block[-1:])), "nesting")

    def test_large_comes_before_names(self):
        self.check_large(((("a", (9,)), ("a", (10 ** 150,))), (access(array="c"),)), "numbers")


class NamesTest(ProgramCase):

    def check_duplicate(self, text, name):
        self.assertEqual(self.told(lambda: Program.read(text), DuplicateName), name)

    def check_unknown(self, text, name):
        self.assertEqual(self.told(lambda: Program.read(text), UnknownName), name)

    def test_duplicates(self):
        self.check_duplicate("array a n array b n array a n array b n", "a")
        self.check_duplicate("array a n for a n { }", "a")
        self.check_duplicate("for i n { for k n { for i n { } } }", "i")
        self.check_duplicate("array a n for i n { } for i n { for a n { } }", "a")

    def test_counters_may_come_again_beside_one_another(self):
        self.assertEqual(len(Program.read("array a n for i n { read a[i] } for i n { read a[i] }")), 2)

    def test_unknown(self):
        self.check_unknown("read a[0]", "a")
        self.check_unknown("array a n write b[0]", "b")
        self.check_unknown("array a n read a[i]", "i")
        self.check_unknown("array a n for i n { read a[i] } read a[i]", "i")
        self.check_unknown("array a n for i n { read i[0] }", "i")
        self.check_unknown("array a n array b n for i n { read a[b] }", "b")
        self.check_unknown("array a n for k n { read a[z + k + i] }", "i")

    def test_the_first_one_counts(self):
        self.check_duplicate("array a n array a n read b[0]", "a")
        self.check_duplicate("array a n for a n { read b[0] }", "a")
        self.check_unknown("array a n for i n { read b[k] for i n { } }", "b")
        self.check_unknown("array a n for i n { read a[k] for i n { } }", "k")
        self.check_duplicate("array a n for i n { for i n { } read a[k] }", "i")
        self.check_unknown("array a n read a[q] read c[0]", "q")
        self.check_unknown("array a n for i n { } read c[q]", "c")


class ReadTest(ProgramCase):

    def test_errors_of_texts(self):
        self.assertEqual(self.told(lambda: Program.read("array a n for"), InvalidSyntax), 13)
        self.assertEqual(self.told(lambda: Program.read(None), InvalidText), None)
        self.assertEqual(self.told(lambda: Program.read("for i n*n*n*n { "), TooLarge), "degree")
        self.assertEqual(self.told(lambda: Program.read("array a 1" + 150 * "0"), TooLarge), "numbers")
        self.assertEqual(self.told(lambda: Program.read("read b[0] ]"), InvalidSyntax), 10)

    def test_sums_that_grow_too_large(self):
        text = "array a " + "9" * 150 + " + 1"
        self.assertEqual(self.told(lambda: Program.read(text), TooLarge), "numbers")

    def test_texts_are_read_back(self):
        program = Program.read(TEXT)
        self.assertEqual(Program.read(show(program.tree())), program)
        self.assertEqual(Program.read("array a n"), Program.read(" array\na  n\n"))


if __name__ == "__main__":
    unittest.main()
