"""Points 3 (f), 3 (g), 18 and 19, and the interface of farmisses/orders.py."""

import inspect
import itertools
import unittest

import nests
import oracle
from farmisses import orders
from farmisses.errors import InvalidNumber, InvalidOrder, LimitExceeded, OutOfRange, Uneven
from farmisses.machine import accesses
from farmisses.orders import clash, is_clash, is_legal, legal_orders, nest, permutations, reordered
from farmisses.programs import Program

GREAT = 10 ** 60
NO_NESTS = ["", "flush", "array a 9", "array a 9 read a[0]", "array a 9 for i n { read a[0] } flush",
            "for i n { } for j n { }", "array a 9 for i n { read a[0] for j n { } }",
            "for i n { for j n { } for k n { } }", "for i n { for j n { } flush }",
            "for i n { for j n { for k n { } flush } }"]
NO_ORDERS = [None, True, 0, "", "i", "ij", b"ij", [], ["i", "j"], {}, {"i": 1, "j": 2}, (), ("i",), ("j",),
             ("i", "i"), ("j", "j"), ("i", "k"), ("i", "j", "k"), ("i", "j", "i"), ("i", None), (0, 1), (True, False),
             (["i"], "j"), ("i", ["j"]), (("i", "j"),), (("i",), ("j",)), ("i", "j "), ("I", "j"), ("i", b"j"),
             ("i", ("j",)), ({"i": 1}, "j")]


class OrdersCase(unittest.TestCase):

    def told(self, call, kind):
        with self.assertRaises(kind) as caught:
            call()
        self.assertIs(type(caught.exception), kind)
        fields = list(vars(caught.exception).values())
        self.assertEqual(len(fields), 1)
        return fields[0]


class NestsTest(OrdersCase):

    def test_nests(self):
        for text, counters in [("for i n { }", ("i",)), ("for j n { for i n { } }", ("j", "i")),
                               ("array a 9 for j n { for i n { read a[0] flush write a[0] } }", ("j", "i")),
                               ("for e 1 { for d 2 { for c n { for b n { for a n - n { flush } } } } }",
                                ("e", "d", "c", "b", "a"))]:
            self.assertEqual(nest(Program.read(text)), counters)

    def test_other_programs(self):
        for text in NO_NESTS:
            program = Program.read(text)
            self.assertEqual(nest(program), (), text)
            again = reordered(program, ())
            self.assertIsInstance(again, Program)
            self.assertEqual(again, program)
            if len(program) > 0 or "a" not in program:
                self.assertEqual(list(legal_orders(program, 3)), [()])
                self.assertIsNone(clash(program, 3, ()))
                self.assertIs(is_legal(program, 3, ()), True)
                for value in [None, (), (0, 0, (), ()), (0, 0, (0,), (1,)), (0, 0, (1,), (0,))]:
                    self.assertIs(is_clash(program, 3, (), value), False)
            for value in NO_ORDERS + [("i",)]:
                if value != ():
                    for call in [lambda: reordered(program, value), lambda: clash(program, 3, value),
                                 lambda: is_legal(program, 3, value), lambda: is_clash(program, 3, value, None)]:
                        self.assertIs(self.told(call, InvalidOrder), value)

    def test_permutations(self):
        for items in [(), ("i",), ("j", "i"), (3, 1, 2), ("d", "c", "b", "a"), (1, 1), (None, [1], "x"),
                      ("a", "b", "c", "d", "e")]:
            self.assertEqual(list(permutations(items)), list(itertools.permutations(items)))
        self.assertTrue(inspect.isgeneratorfunction(permutations))
        # They are yielded one by one.
        self.assertEqual(list(itertools.islice(permutations(tuple(range(30))), 2)),
                         [tuple(range(30)), (*range(28), 29, 28)])

    def test_reordered(self):
        text = "array a n*n for i n { for j 2*n { for k 3 { read a[i + j] flush } } }"
        program = Program.read(text)
        bounds = {"i": "n", "j": "2*n", "k": "3"}
        for order in itertools.permutations("ijk"):
            heads = " ".join(f"for {counter} {bounds[counter]} {{" for counter in order)
            wanted = Program.read(f"array a n*n {heads} read a[i + j] flush }} }} }}")
            self.assertEqual(reordered(program, order), wanted)
            self.assertEqual(nest(wanted), order)
            self.assertEqual(reordered(wanted, ("i", "j", "k")), program)
        self.assertEqual(program, Program.read(text))
        self.assertEqual(reordered(Program.read("for i n { }"), ("i",)), Program.read("for i n { }"))

    def test_values_that_are_no_orders(self):
        program = Program.read("array a n*n for i n { for j n { write a[n*i + j] } }")
        for value in NO_ORDERS:
            for call in [lambda: reordered(program, value), lambda: clash(program, 3, value),
                         lambda: is_legal(program, 3, value), lambda: is_clash(program, 3, value, None)]:
                self.assertIs(self.told(call, InvalidOrder), value)


class ClashesTest(OrdersCase):

    def check_nest(self, program, n):
        """Compare all orders of a nest with all pairs of rounds; return how many are legal, and how many are not."""
        told = nests.Nest(program, n)
        counters = nest(program)
        found = [0, 0]
        uneven = told.uneven()
        legal = []
        for order in itertools.permutations(counters):
            clashes = told.clashes(order)
            for value in sorted(clashes)[:3]:
                self.assertIs(is_clash(program, n, order, value), True)
            if uneven is not None:
                self.assertEqual(self.told(lambda: clash(program, n, order), Uneven), uneven)
                self.assertEqual(self.told(lambda: is_legal(program, n, order), Uneven), uneven)
                continue
            one = clash(program, n, order)
            self.assertEqual(one is None, clashes == set(), (program.tree(), n, order))
            self.assertIs(is_legal(program, n, order), one is None)
            if one is not None:
                self.assertIn(one, clashes)
                self.assertIsInstance(one, tuple)
                self.assertIs(is_clash(program, n, order, one), True)
                found[1] += 1
            else:
                legal.append(order)
                found[0] += 1
        if uneven is not None:
            self.assertEqual(self.told(lambda: list(legal_orders(program, n)), Uneven), uneven)
        else:
            self.assertEqual(list(legal_orders(program, n)), legal)
            self.assertEqual(legal[:1], [counters])
        return found

    def test_against_all_pairs_of_rounds(self):
        random_ = oracle.generator(191)
        legal = illegal = 0
        for _ in range(420):
            program = nests.some_nest(random_, random_.choice([1, 2, 2, 2, 3, 3]))
            for n in [random_.choice([1, 2]), random_.choice([2, 3])]:
                found = self.check_nest(program, n)
                legal += found[0]
                illegal += found[1]
        self.assertGreater(legal, 1000)
        self.assertGreater(illegal, 300)

    def test_four_and_five_loops(self):
        random_ = oracle.generator(192)
        illegal = 0
        for loops in [4, 4, 4, 5]:
            program = nests.some_nest(random_, loops, names="a", bounds=("2", "2", "n", "1"), even=1)
            illegal += self.check_nest(program, 2)[1]
        self.assertGreater(illegal, 10)

    def test_what_is_a_clash(self):
        for text, many in [("for i n { for j 2 { read a[i + j] write a[i + j] } }", 3),
                           ("for j 2 { for i n { write a[2*i - 2*j + 5] } }", 0),
                           ("for i 2 { for j n { write a[i - j + 4] read b[0] read a[i - j + 6] flush } }", 1),
                           ("for i n { for j 2 { read a[i] write b[j] write a[i] write b[3] } }", 1)]:
            program = Program.read("array a 9 array b 9 " + text)
            told = nests.Nest(program, 2)
            rounds = [(), (0,), *itertools.product([-1, 0, 1, 2], repeat=2)]
            seen = 0
            for order in itertools.permutations(nest(program)):
                clashes = told.clashes(order)
                for access in range(-1, len(program) + 1):
                    for other in range(len(program)):
                        for begin, end in itertools.product(rounds, repeat=2):
                            value = (access, other, begin, end)
                            self.assertIs(is_clash(program, 2, order, value), value in clashes)
                            seen += value in clashes
            self.assertEqual(seen, many)

    def test_any_value(self):
        program = Program.read("array a 9 for i n { for j n { read a[i + j] write a[i + j] } }")
        order = ("j", "i")
        self.assertTrue(is_clash(program, 3, order, (0, 1, (0, 1), (1, 0))))
        for value in [None, True, 1, "", (), [], {}, b"", (0, 1), (0, 1, (0, 1)), [0, 1, (0, 1), (1, 0)],
                      (0, 1, (0, 1), (1, 0), 0), (0, True, (0, 1), (1, 0)), (False, 1, (0, 1), (1, 0)),
                      (0, 1, (0, True), (1, 0)), (0, 1, (0, 1), (1, False)), (0, 1, [0, 1], (1, 0)),
                      (0, 1, (0, 1), [1, 0]), (0, 0, (0, 1), (1, 0)), (0, 2, (0, 1), (1, 0)), (-1, 1, (0, 1), (1, 0)),
                      (0, -1, (0, 1), (1, 0)), (0, 1, (1, 0), (0, 1)), (0, 1, (0, 1), (0, 1)), (0, 1, (0, 2), (1, 0)),
                      (0, 1, (0, 3), (3, 0)), (0, 1, (0, 1, 0), (1, 0, 0)), (0, 1, (0,), (1,)), (0, 1, "01", "10"),
                      (0, 1, None, None), ("0", 1, (0, 1), (1, 0)), (None, 1, (0, 1), (1, 0)), (0, 1, (None, 1), (1, 0)),
                      (0, 1, ("0", 1), (1, 0)), (0, 1, ((0,), 1), (1, 0)), ([0], 1, (0, 1), (1, 0)), (0, 1, (-1, 2), (1, 0))]:
            self.assertIs(is_clash(program, 3, order, value), False, value)
        self.assertIs(is_clash(program, 3, ("i", "j"), (0, 1, (0, 1), (1, 0))), False)
        # Also where orders are not judged, a clash is one.
        uneven = Program.read("array a 9 for i n { for j n { read a[i] write a[j] } }")
        self.assertIs(is_clash(uneven, 3, order, (0, 1, (0, 1), (1, 0))), True)
        self.assertIs(is_clash(uneven, 3, order, (1, 0, (0, 1), (1, 0))), True)
        self.assertIs(is_clash(uneven, 3, order, (0, 1, (0, 1), (1, 1))), False)


class GreatNumbersTest(OrdersCase):

    def check_orders(self, text, n, legal):
        program = Program.read(text)
        self.assertEqual(["".join(order) for order in legal_orders(program, n)], legal)
        for order in itertools.permutations(nest(program)):
            found = clash(program, n, order)
            self.assertEqual(found is None, "".join(order) in legal)
            if found is not None:
                self.assertTrue(is_clash(program, n, order, found))

    def test_two_loops(self):
        for n in [10 ** 30, GREAT - 1, GREAT]:
            head = "array a 3*n*n + 9 for i n { for j n {"
            self.check_orders(head + " write a[n*i + j] } }", n, ["ij", "ji"])
            self.check_orders(head + " write a[n*i - i + j] } }", n, ["ij"])
            self.check_orders(head + " write a[n*i + i + j] } }", n, ["ij", "ji"])
            self.check_orders(head + " write a[n*j - j + i] } }", n, ["ij"])
            self.check_orders(head + " write a[n*i - i + j] } }", 1, ["ij", "ji"])
            self.check_orders(head + " read a[n*i - i + j] } }", n, ["ij", "ji"])
            self.check_orders(head + " read a[n*i + j + 1] write a[n*i + n + j] } }", n, ["ij"])
            self.check_orders(head + " read a[n*i + j] write a[n*i + j + n] } }", n, ["ij", "ji"])
            # The last round of a row and the first one two rows on.
            self.check_orders(head + " read a[n*i + j] write a[n*i + j + n + 1] } }", n, ["ij"])
            self.check_orders(head + " read a[n*i - j + n] write a[n*i - j + 2*n + 1] } }", n, ["ij"])
            self.check_orders(head + " write a[i + j] } }", n, ["ij"])
            self.check_orders(head + " write a[n + i - j] } }", n, ["ij", "ji"])
            self.check_orders(head + " read a[n + i - j] write a[3*n + 1 + i - j] } }", n, ["ij", "ji"])
            self.check_orders(head + " read a[i] write a[i + 1] } }", n, ["ij"])
            self.check_orders(head + " read a[j] write a[j + 1] } }", n, ["ij"])
            self.check_orders(head + " read a[j] write a[j + n] } }", n, ["ij", "ji"])
            self.check_orders(head + " read a[n*i + j + 1] flush } }", n, ["ij", "ji"])
            self.check_orders(head + " read a[2*n*i + 2*j] write a[2*n*i + 2*j + 3] flush } }", n, ["ij", "ji"])

    def test_three_loops(self):
        head = "array a 20*n*n*n + 9 for i n { for j n { for k n {"
        for n in [10 ** 30, GREAT]:
            self.check_orders(head + " write a[n*n*i + n*j + k] } } }", n, ["ijk", "ikj", "jik", "jki", "kij", "kji"])
            self.check_orders(head + " read a[n*n*i + n*j + k] write a[n*n*i + n*j + k + n - 1] } } }", n, ["ijk"])
            self.check_orders(head + " read a[n*n*i + n*j + k + 1] write a[n*n*i + n*j + k] } } }", n, ["ijk"])
            self.check_orders(head + " read a[n*n*i + n*j + k] write a[n*n*i + n*j + k + n] } } }", n,
                              ["ijk", "ikj", "kij"])
            self.check_orders(head + " read a[n*n*i + n*j + k] write a[n*n*i + n*j + k + n*n] } } }", n,
                              ["ijk", "ikj", "jik", "jki", "kij", "kji"])
            self.check_orders(head + " read a[i] write a[i + 1] } } }", n, ["ijk"])
            self.check_orders(head + " write a[n*i + k] } } }", n, ["ijk", "ikj", "jik", "jki", "kij", "kji"])

    def test_numbers_far_apart(self):
        # One pair of rounds alone meets: the last one of the first row and the first one of the last row.
        program = Program.read("array a 9*n*n for i n { for j n { read a[n*i + 2*n*n + j] write a[n*i + n*n + 3*n - 1 + j] } }")
        for n in [10 ** 30, GREAT]:
            self.assertEqual(list(legal_orders(program, n)), [("i", "j")])
            found = clash(program, n, ("j", "i"))
            self.assertTrue(is_clash(program, n, ("j", "i"), found))


class OrderErrorsTest(OrdersCase):

    def test_in_their_order(self):
        program = Program.read("array a n array b 9 for i n { for j n - 2 { read b[i] read a[2*i + j] write b[j] } }")
        calls = [lambda n, order: clash(program, n, order), lambda n, order: is_legal(program, n, order),
                 lambda n, order: is_clash(program, n, order, None)]
        for n in [None, True, -1, 10 ** 60 + 1, "3", (3,)]:
            for call in calls + [lambda n, order: list(legal_orders(program, n))]:
                self.assertIs(self.told(lambda: call(n, None), InvalidNumber), n)
        for call in calls + [lambda n, order: list(legal_orders(program, n))]:
            self.assertEqual(self.told(lambda: call(3, None), OutOfRange), 1)
        program = Program.read("array a 9*n array b n for i n { for j n - 2 { read b[i] read a[2*i + j] write b[j] } }")
        for call in calls:
            self.assertEqual(self.told(lambda: call(3, ("i",)), InvalidOrder), ("i",))
        for call in calls[:2] + [lambda n, order: list(legal_orders(program, n))]:
            self.assertEqual(self.told(lambda: call(3, ("i", "j")), Uneven), "b")
        self.assertIs(is_clash(program, 3, ("i", "j"), None), False)
        # Without rounds, nothing is uneven, and each order is legal.
        for n in [0, 1, 2]:
            self.assertEqual(list(legal_orders(program, n)), [("i", "j"), ("j", "i")])
            self.assertIsNone(clash(program, n, ("j", "i")))

    def test_uneven(self):
        head = "array a 99 array b 99 array c 99 for i n { for j n {"
        for body, name in [("read a[i] read b[j] write b[i] write a[j]", "a"), ("read a[i] read a[j]", None),
                           ("read a[i] read a[j] write a[j]", "a"), ("read c[i] write b[i] write b[i + 1] write c[j]", "c"),
                           ("read a[i] read b[i] read b[j] write b[i]", "b"), ("write a[2*i] write b[i] read b[2*i]", "b"),
                           ("write a[2] write c[i] read c[0]", "c"), ("write a[i + j] write a[j]", "a"),
                           ("read b[j] read a[i] write a[i + 1] write b[j]", None)]:
            program = Program.read(f"{head} {body} }} }}")
            for order in [("i", "j"), ("j", "i")]:
                if name is None:
                    clash(program, 2, order)
                else:
                    self.assertEqual(self.told(lambda: clash(program, 2, order), Uneven), name)
                    self.assertEqual(self.told(lambda: is_legal(program, 2, order), Uneven), name)
        # The factors for n are compared, also with one loop alone.
        program = Program.read("array a 99 for i 2 { write a[n*i] read a[2*i] }")
        self.assertEqual(list(legal_orders(program, 2)), [("i",)])
        self.assertEqual(self.told(lambda: list(legal_orders(program, 3)), Uneven), "a")
        self.assertEqual(self.told(lambda: clash(program, 3, ("i",)), Uneven), "a")

    def test_other_programs_are_not_uneven(self):
        program = Program.read("array a 99 for i n { write a[i] read a[2*i] } flush")
        self.assertEqual(list(legal_orders(program, 5)), [()])
        self.assertIsNone(clash(program, 5, ()))

    def many_differences(self, bounds, begin):
        loops = " ".join(f"for {counter} {bound} {{" for counter, bound in zip("ijk", bounds))
        size = 10 ** 40
        return Program.read(f"array a {size} {loops} read a[{10 ** 20 + 39}*i + {10 ** 20 + 129}*j + {10 ** 20 + 151}*k] "
                            f"write a[{begin} + {10 ** 20 + 39}*i + {10 ** 20 + 129}*j + {10 ** 20 + 151}*k] }} }} }}")

    def test_limit(self):
        for bounds in [(17, 17, 17), (5000, 1, 1), (1250, 2, 2), (2, 1250, 2), (2, 2, 1250), (5, 40, 25)]:
            program = self.many_differences(bounds, 1)
            self.assertEqual(len(list(legal_orders(program, 0))), 6)
        program = self.many_differences((10 ** 6,) * 3, 1)
        for call in [lambda: clash(program, 0, ("k", "j", "i")), lambda: is_legal(program, 0, ("k", "j", "i")),
                     lambda: list(legal_orders(program, 0))]:
            self.assertEqual(self.told(call, LimitExceeded), "differences")
        self.assertIs(is_clash(program, 0, ("k", "j", "i"), None), False)
        # What needs no looking for is told.
        self.assertIs(is_legal(program, 0, ("i", "j", "k")), True)
        program = self.many_differences((10 ** 6,) * 3, 90)
        found = clash(program, 0, ("j", "i", "k"))
        self.assertEqual(found, (0, 1, (0, 1, 0), (1, 0, 0)))
        # Two factors, or great ones, are no matter of many rounds.
        for index, is_told in [("n*i + n*j - j + 5*n*n", True), (f"{10 ** 29}*i + {10 ** 29 + 1}*j + n*n", False)]:
            program = Program.read(f"array a 99*n*n for i n {{ for j n {{ for k n {{ write a[{index}] }} }} }}")
            self.assertIs(is_legal(program, GREAT, ("k", "j", "i")), is_told)
        program = Program.read("array a n*n*n + n*n for i n { for j n { for k n { read a[n*n*i + n*j + k + 1] "
                               "write a[n*n*i + n*j + k + n] } } }")
        self.assertEqual(list(legal_orders(program, GREAT))[0], ("i", "j", "k"))


class OrdersInterfaceTest(unittest.TestCase):

    def test_example(self):
        program = Program.read("array a n*n + 2*n for i n { for j n { read a[n*i + j + 1] write a[n*i + n + j] } }")
        self.assertEqual((list(legal_orders(program, 10 ** 30)), clash(program, 2, ("j", "i"))),
                         ([("i", "j")], (1, 0, (0, 1), (1, 0))))

    def between_writes(self, program, made, cell):
        runs = [[]]
        for number, *at in made:
            if tuple(at) == cell and program.accesses[number][0] == "write":
                runs.extend([number, []])
            elif tuple(at) == cell:
                runs[-1] = sorted(runs[-1] + [number])
        return runs

    def test_a_legal_order_makes_the_same_accesses(self):
        random_ = oracle.generator(194)
        seen = 0
        for _ in range(60):
            program = nests.some_nest(random_, random_.choice([2, 3]), even=1)
            orders_ = list(legal_orders(program, 3))
            first = list(accesses(program, 3))
            for order in orders_:
                other = list(accesses(reordered(program, order), 3))
                self.assertEqual(sorted(other), sorted(first))
                for cell in {access[1:] for access in first}:
                    # Reads between two writes may change places with one another, and nothing else.
                    self.assertEqual(*[self.between_writes(program, made, cell) for made in (first, other)])
                seen += order != nest(program)
        self.assertGreater(seen, 40)

    def test_parameters(self):
        for name, parameters in [("nest", ["program"]), ("permutations", ["items"]), ("reordered", ["program", "order"]),
                                 ("clash", ["program", "n", "order"]), ("is_legal", ["program", "n", "order"]),
                                 ("is_clash", ["program", "n", "order", "value"]), ("legal_orders", ["program", "n"])]:
            function = getattr(orders, name)
            self.assertEqual(list(inspect.signature(function).parameters), parameters)
            self.assertEqual(function.__module__, "farmisses.orders")
        for name in ["permutations", "legal_orders"]:
            self.assertTrue(inspect.isgeneratorfunction(getattr(orders, name)))


if __name__ == "__main__":
    unittest.main()
