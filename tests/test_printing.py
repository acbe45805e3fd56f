"""Points 3 (i) and 6, and the interface of farmisses/printing.py."""

import inspect
import random
import unittest

from farmisses.printing import show, show_size
from farmisses.texts import parse, parse_block, parse_size

NUMBERS = [-10 ** 60, -12, -2, -1, 0, 0, 1, 1, 2, 10, 10 ** 149]


def some_parts(chance, most=3):
    parts = [chance.choice(NUMBERS) for _ in range(chance.randint(0, most + 1))]
    while parts and parts[-1] == 0:
        parts.pop()
    return tuple(parts)


def some_index(chance):
    counters = sorted(chance.sample(["i", "j", "k2", "a", "n0", "i1"], chance.randint(0, 3)))
    factors = [(counter, some_parts(chance)) for counter in counters]
    return (some_parts(chance), tuple(pair for pair in factors if pair[1]))


def some_block(chance, depth):
    block = []
    for _ in range(chance.randint(0, 3)):
        word = chance.choice(["for", "for", "read", "write", "flush"])
        if word == "for" and depth < 5:
            block.append(("for", chance.choice("ijk"), some_parts(chance),
                          some_block(chance, depth + 1)))
        elif word in ("read", "write"):
            block.append((word, chance.choice("abc"), some_index(chance)))
        else:
            block.append(("flush",))
    return tuple(block)


def some_tree(chance):
    arrays = tuple((name, some_parts(chance)) for name in "abc"[:chance.randint(0, 3)])
    return (arrays, some_block(chance, 0))


class PrintingTest(unittest.TestCase):

    def test_example_of_the_document(self):
        tree = parse('array a 2*n*n for i n { read a[n*i + 3 - 1 + n*i] }')
        self.assertEqual(show(tree),
                         'array a 2*n*n\nfor i n {\n  read a[2*n*i + 2]\n}\n')

    def test_example_of_point_7(self):
        tree = ((("a", (16,)), ("b", (4,))),
                (("for", "i", (4,), (("for", "j", (3,), (
                    ("read", "a", ((1,), (("i", (4,)), ("j", (1,))))),
                    ("write", "b", ((), (("i", (1,)),))))),)),))
        self.assertEqual(show(tree), 'array a 16\narray b 4\nfor i 4 {\n  for j 3 {\n    '
                         'read a[4*i + j + 1]\n    write b[i]\n  }\n}\n')

    def test_interface(self):
        for function, names in [(show, ["tree"]), (show_size, ["parts"])]:
            self.assertEqual(list(inspect.signature(function).parameters), names)
            self.assertEqual(function.__module__, "farmisses.printing")
        self.assertEqual(show(tree=((), ())), "")
        self.assertEqual(show_size(parts=(1,)), "1")

    def test_sizes(self):
        for parts, text in [
                ((), "0"), ((1,), "1"), ((-1,), "-1"), ((7,), "7"), ((-7,), "-7"), ((0, 1), "n"),
                ((0, -1), "-n"), ((0, 2), "2*n"), ((0, -2), "-2*n"), ((0, 0, 1), "n*n"),
                ((0, 0, 0, 1), "n*n*n"), ((0, 0, 0, -5), "-5*n*n*n"), ((1, 1), "n + 1"),
                ((-1, -1), "-n - 1"), ((-5, 3), "3*n - 5"), ((3, 0, 2), "2*n*n + 3"),
                ((4, -1, 0, 1), "n*n*n - n + 4"), ((-1, 1, -1, 1), "n*n*n - n*n + n - 1"),
                ((10 ** 149,), "1" + "0" * 149)]:
            self.assertEqual(show_size(parts), text)
            self.assertEqual(parse_size(text), parts)

    def test_indexes(self):
        for index, text in [
                (((), ()), "0"), (((5,), ()), "5"), (((-1, -1), ()), "-n - 1"),
                (((), (("i", (1,)),)), "i"), (((), (("i", (-1,)),)), "-i"),
                (((), (("i", (3,)),)), "3*i"), (((), (("i", (0, 1)),)), "n*i"),
                (((), (("i", (0, -1)),)), "-n*i"), (((), (("i", (0, 0, -2)),)), "-2*n*n*i"),
                (((1,), (("i", (1,)),)), "i + 1"), (((-1,), (("i", (1,)),)), "i - 1"),
                (((2, 1), (("i", (-1, 4)), ("j", (1,)))), "4*n*i - i + j + n + 2"),
                (((0, 0, 9), (("a1", (1,)), ("b", (-1, 0, 1)))), "a1 + n*n*b - b + 9*n*n")]:
            block = (("read", "a", index),)
            self.assertEqual(show(((), block)), f"read a[{text}]\n")
            self.assertEqual(parse_block(f"read a[{text}]"), block)

    def test_lines_and_indents(self):
        block = (("flush",), ("for", "i", (0, 1), ()),
                 ("for", "i", (2,), (("for", "j", (), (("flush",),)), ("write", "b", ((), ())))),
                 ("read", "b", ((0, 1), ())))
        self.assertEqual(show(((("b", ()), ("c", (0, 0, 1))), block)), "\n".join([
            "array b 0", "array c n*n", "flush", "for i n {", "}", "for i 2 {", "  for j 0 {",
            "    flush", "  }", "  write b[0]", "}", "read b[n]", ""]))

    def test_empty_trees(self):
        self.assertEqual(show(((), ())), "")
        self.assertEqual(show(((("a", (0, 1)),), ())), "array a n\n")
        self.assertEqual(show(((), (("flush",),))), "flush\n")

    def test_trees_beyond_the_limits(self):
        self.assertEqual(show_size((0, 0, 0, 0, 2)), "2*n*n*n*n")
        self.assertEqual(show_size((10 ** 160,)), "1" + "0" * 160)
        block = ()
        for _ in range(40):
            block = (("for", "i", (0, 1), block),)
        lines = show(((), block)).split("\n")
        self.assertEqual(lines[:40], ["  " * k + "for i n {" for k in range(40)])
        self.assertEqual(lines[40:], ["  " * k + "}" for k in reversed(range(40))] + [""])

    def test_trees_do_not_change_and_texts_are_equal(self):
        tree = some_tree(random.Random(1))
        again = some_tree(random.Random(1))
        self.assertEqual(show(tree), show(tree))
        self.assertEqual(tree, again)

    def test_what_is_shown_is_read_back(self):
        chance = random.Random(6)
        for _ in range(300):
            tree = some_tree(chance)
            text = show(tree)
            self.assertEqual(parse(text), tree, text)
            self.assertEqual(parse(" ".join(text.split())), tree, text)
            self.assertEqual(show(parse(text)), text)
            self.assertEqual(show((tree[0], parse_block(show(((), tree[1]))))), text)

    def test_a_text_in_another_form_is_shown_in_the_one_form(self):
        text = ("array b -3 + n*n for k 1*n - 0 { } for j n { for i n - 1 "
                "{ write b[2 + j - n*i + 3*i - 1*n*n + j - 4*i] flush } }")
        self.assertEqual(show(parse(text)), "\n".join([
            "array b n*n - 3", "for k n {", "}", "for j n {", "  for i n - 1 {",
            "    write b[-n*i - i + 2*j - n*n + 2]", "    flush", "  }", "}", ""]))


if __name__ == "__main__":
    unittest.main()
