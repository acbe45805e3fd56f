"""Points 3 (h) and 21, and the interface of farmisses/best.py."""

import inspect
import itertools
import unittest

import nests
import oracle
from farmisses import best as module
from farmisses.best import best, best_paper, choices, told_best, variant
from farmisses.blocks import cut
from farmisses.caches import Cache
from farmisses.costs import cost
from farmisses.errors import (InvalidBlocks, InvalidNumber, InvalidWeights, LimitExceeded, OutOfRange, TooLarge,
                              TooMany, Uneven)
from farmisses.orders import is_clash, legal_orders, nest, permutations, reordered
from farmisses.papers import paper, told_count
from farmisses.programs import Program

TWO = Cache(2, ((2, 1, "used", "back"),))
ROWS = Program.read("array a n*n for i n { for j n { read a[n*j + i] } }")
SWAP = Program.read("array a 2*n*n + n for i 2*n { for j n { read a[n*i + j] write a[n*i + j] } }")
NO_CUTTINGS = [None, True, 0, "", "ij", [], [()], {}, ()]
NO_PAPERS = [None, True, 0, "", "count", [], {}, (), (None,), (None, None), ("count", "clash"), (("count",), ("count",)),
             (("count", None), ("count", None)), ((), ()), (["count", ()], ["count", ()]), (("Count", ()), ("count", ())),
             ((None, ()), (None, ())), ((["count"], ()), (0, ())), (("clash", None), ("clash", None)),
             (("clash", (0, 0, (0, 0), (0, 1))),) * 2, (("count", ()),) * 2, (("count", (None,)),) * 2]


class BestCase(unittest.TestCase):

    def told(self, call, kind):
        with self.assertRaises(kind) as caught:
            call()
        self.assertIs(type(caught.exception), kind)
        fields = list(vars(caught.exception).values())
        self.assertEqual(len(fields), 1)
        return fields[0]


class ChoicesTest(BestCase):

    def test_all_choices_in_order(self):
        cuttings = ((), (("i", 2, "k"),), (("i", 2, "m"), ("m", 2, "k")), ())
        program = Program.read("array a n*n for i 4*n { for j n { } }")
        wanted = [(0, order) for order in itertools.permutations("ij")]
        wanted += [(1, order) for order in itertools.permutations("kij")]
        wanted += [(2, order) for order in itertools.permutations("kmij")]
        wanted += [(3, order) for order in itertools.permutations("ij")]
        self.assertEqual(list(choices(program, cuttings)), wanted)
        self.assertEqual(list(choices(program)), wanted[:2])
        for choice in wanted:
            made = variant(program, choice, cuttings)
            self.assertIsInstance(made, Program)
            self.assertEqual(nest(made), choice[1])
            self.assertEqual(made, reordered(cut(program, cuttings[choice[0]]), choice[1]))
        self.assertEqual(variant(program, (0, ("j", "i"))), reordered(program, ("j", "i")))
        self.assertTrue(inspect.isgeneratorfunction(choices))

    def test_programs_that_are_no_nests(self):
        for text in ["", "flush", "array a 9 for i n { read a[0] } for j n { }"]:
            program = Program.read(text)
            self.assertEqual(list(choices(program)), [(0, ())])
            self.assertEqual(list(choices(program, ((), ()))), [(0, ()), (1, ())])
            self.assertEqual(variant(program, (0, ())), program)
            shown = best_paper(program, TWO, 5)
            self.assertEqual(shown, (("count", paper(program, TWO, 5)),))
            self.assertEqual(best(program, TWO, 5), told_best(program, TWO, 5, shown))
            self.assertEqual(best(program, TWO, 5)[1], (0, ()))
            self.assertEqual(self.told(lambda: list(choices(program, ((("i", 2, "k"),),))), InvalidBlocks), "i")
            self.assertIsNone(told_best(program, TWO, 5, (("clash", (0, 0, (), ())),)))

    def test_too_many(self):
        five = Program.read("for a 2 { for b 2 { for c 2 { for d 2 { for e 2 { } } } } }")
        self.assertEqual(len(list(choices(five))), 120)
        self.assertEqual(best(five, TWO, 0), (0, (0, tuple("abcde"))))
        four = Program.read("for a 2 { for b 2 { for c 2 { for d 2 { } } } }")
        self.assertEqual(len(list(choices(four, ((),) * 5))), 120)
        calls = [lambda program, cuttings: list(choices(program, cuttings)),
                 lambda program, cuttings: best(program, TWO, 0, cuttings, weights=5),
                 lambda program, cuttings: best_paper(program, TWO, 0, cuttings, weights=5),
                 lambda program, cuttings: told_best(program, TWO, 0, None, cuttings, weights=5)]
        for call in calls:
            self.assertEqual(self.told(lambda: call(five, ((), ())), TooMany), "choices")
            self.assertEqual(self.told(lambda: call(four, ((),) * 6), TooMany), "choices")
            self.assertEqual(self.told(lambda: call(four, ((("a", 2, "x"),), ())), TooMany), "choices")
            self.assertEqual(self.told(lambda: call(Program.read("flush"), ((),) * 121), TooMany), "choices")
            self.assertEqual(self.told(lambda: call(five, ((), (), 5)), InvalidBlocks), 5)
            self.assertEqual(self.told(lambda: call(five, ((), (), (("a", 2, "x"),))), TooLarge), "nesting")
        self.assertEqual(len(list(choices(four, ((("a", 2, "x"),),)))), 120)
        self.assertEqual(len(list(choices(Program.read("flush"), ((),) * 120))), 120)
        self.assertEqual(self.told(lambda: best(four, TWO, 0, ((),) * 5, weights=5), InvalidWeights), 5)


class FoundTest(BestCase):

    def played(self, program, cache, n, cuttings, weights):
        """All choices with their costs, None for one that is not legal, each one played."""
        found = []
        for choice in choices(program, cuttings):
            made = variant(program, choice, cuttings)
            clashes = nests.Nest(cut(program, cuttings[choice[0]]), n).clashes(choice[1])
            legal = not nest(program) or not clashes
            found.append((choice, cost(cache, oracle.tally(made, cache, n), weights) if legal else None))
        return found

    def test_against_each_choice_played(self):
        random_ = oracle.generator(210)
        illegal = others = 0
        for number in range(160):
            loops = random_.choice([1, 2, 2, 2, 3])
            program = nests.some_nest(random_, loops, names=random_.choice(["a", "ab"]), even=1,
                                      bounds=("2*n", "4", "n", "2", "6", "n - 1"))
            cache = oracle.some_cache(random_, 24)
            n = random_.choice([2, 3, 4] if loops < 3 else [2, 3])
            cuttings = [()]
            for size, outer in [(2, "x"), (3, "y"), (2, "z")][:0 if loops == 3 else 3]:
                counter = random_.choice(nest(program))
                try:
                    cut(program, ((counter, size, outer),))
                except InvalidBlocks:
                    continue
                cuttings.insert(random_.randrange(len(cuttings) + 1), ((counter, size, outer),))
            cuttings = tuple(cuttings)
            weights = random_.choice([None, None, {}, {("hit", 0): 3, ("miss", 0): 1, ("crowded", 0): 2}, {("back", 0): 5}])
            played = self.played(program, cache, n, cuttings, weights)
            least = min(paid for _, paid in played if paid is not None)
            wanted = next((paid, choice) for choice, paid in played if paid == least)
            self.assertEqual(best(program, cache, n, cuttings, weights=weights), wanted)
            shown = best_paper(program, cache, n, cuttings, weights=weights)
            self.assertEqual(told_best(program, cache, n, shown, cuttings, weights=weights), wanted)
            self.assertEqual([word for word, _ in shown], ["clash" if paid is None else "count" for _, paid in played])
            illegal += sum(paid is None for _, paid in played)
            others += wanted[1] != played[0][0]
        self.assertGreater(illegal, 150)
        self.assertGreater(others, 15)

    def test_great_numbers(self):
        n = 10 ** 60
        self.assertEqual(best(ROWS, TWO, n), (n * n // 2, (0, ("j", "i"))))
        cuttings = ((("i", 2, "k"),), ())
        program = Program.read("array a 4*n*n for i 2*n { for j 2*n { read a[2*n*j + i] } }")
        found = best(program, TWO, n, cuttings)
        self.assertEqual(found[0], 2 * n * n)
        shown = best_paper(program, TWO, n, cuttings)
        self.assertEqual(told_best(program, TWO, n, shown, cuttings), found)
        self.assertIsNone(told_best(program, TWO, n, shown, ((),)))
        self.assertIsNone(told_best(program, TWO, n, shown, ((), (("i", 2, "k"),))))

    def test_the_first_of_equal_ones(self):
        program = Program.read("array a 9 for i 3 { for j 3 { read a[0] } }")
        self.assertEqual(best(program, TWO, 0), (1, (0, ("i", "j"))))
        self.assertEqual(best(program, TWO, 0, ((), ())), (1, (0, ("i", "j"))))
        self.assertEqual(best(ROWS, TWO, 4, weights={}), (0, (0, ("i", "j"))))
        self.assertEqual(best(ROWS, TWO, 4, ((), ())), (8, (0, ("j", "i"))))

    def test_weights(self):
        self.assertEqual(best(ROWS, TWO, 4, weights={("hit", 0): 1}), (0, (0, ("i", "j"))))
        self.assertEqual(best(ROWS, TWO, 4, weights={("miss", 0): 10 ** 30}), (8 * 10 ** 30, (0, ("j", "i"))))
        shown = best_paper(ROWS, TWO, 4, weights={("hit", 0): 1})
        self.assertEqual(told_best(ROWS, TWO, 4, shown, weights={("hit", 0): 1}), (0, (0, ("i", "j"))))
        self.assertEqual(told_best(ROWS, TWO, 4, shown), (8, (0, ("j", "i"))))
        with self.assertRaises(TypeError):
            best(ROWS, TWO, 4, ((),), None)


class PapersTest(BestCase):

    def test_any_value(self):
        for value in NO_PAPERS:
            self.assertIsNone(told_best(ROWS, TWO, 4, value), value)
            self.assertIsNone(told_best(SWAP, TWO, 4, value), value)

    def check_bent(self, program, cache, n, cuttings=((),)):
        shown = best_paper(program, cache, n, cuttings)
        wanted = best(program, cache, n, cuttings)
        self.assertEqual(told_best(program, cache, n, shown, cuttings), wanted)
        for at in range(len(shown)):
            for value in [shown[:at] + shown[at + 1:], shown[:at] + shown[at:at + 1] + shown[at:],
                          shown[:at] + (None,) + shown[at + 1:], shown[:at] + (shown[at] + (0,),) + shown[at + 1:],
                          shown[:at] + (list(shown[at]),) + shown[at + 1:],
                          shown[:at] + (("clash", shown[at][1]) if shown[at][0] == "count" else
                                        ("count", shown[at][1]),) + shown[at + 1:],
                          shown[:at] + ((shown[at][0], None),) + shown[at + 1:],
                          shown[:at] + ((shown[at][0], ()),) + shown[at + 1:], list(shown)]:
                self.assertIsNone(told_best(program, cache, n, value, cuttings), value)
        for at, other in itertools.combinations(range(len(shown)), 2):
            value = list(shown)
            value[at], value[other] = shown[other], shown[at]
            self.check_exchanged(program, cache, n, cuttings, tuple(value), wanted)

    def check_exchanged(self, program, cache, n, cuttings, value, wanted):
        """Rows may stand for one another where a clash is one of both, or a paper holds for both."""
        holds = True
        for choice, (word, what) in zip(choices(program, cuttings), value):
            made = cut(program, cuttings[choice[0]])
            if word == "clash":
                holds = holds and is_clash(made, n, choice[1], what)
            else:
                holds = holds and choice[1] in list(legal_orders(made, n)) and told_count(
                    reordered(made, choice[1]), cache, n, what) is not None
        self.assertEqual(told_best(program, cache, n, value, cuttings), wanted if holds else None)

    def test_bent_papers(self):
        four = Cache(2, ((2, 2, "used", "back"), (4, 2, "tree", "through")))
        self.check_bent(SWAP, TWO, 3)
        self.check_bent(ROWS, four, 9)
        self.check_bent(SWAP, four, 4, ((), (("i", 2, "k"),)))
        clashing = Program.read("array a 9*n*n for i n { for j n { read a[n*i + j + 1] write a[n*i + n + j] } }")
        self.check_bent(clashing, TWO, 5)
        self.check_bent(clashing, TWO, 12)
        three = Program.read("array a 9*n*n for i n { for j n { for k 2 { read a[n*i + j + 1 + k] write a[n*i + n + j + k] } } }")
        self.check_bent(three, TWO, 5)

    def test_for_another_number(self):
        shown = best_paper(ROWS, TWO, 50)
        self.assertEqual(told_best(ROWS, TWO, 54, shown), best(ROWS, TWO, 54))
        self.assertIsNone(told_best(ROWS, TWO, 5, shown))
        self.assertIsNone(told_best(SWAP, TWO, 50, shown))

    def test_another_paper_that_holds(self):
        program = Program.read("array a n for i n { read a[i] }")
        self.assertEqual(told_best(program, TWO, 99, (("count", (None,)),)), best(program, TWO, 99))
        self.assertEqual(told_best(program, TWO, 99, (("count", ((8, 4),)),)), best(program, TWO, 99))
        self.assertIsNone(told_best(program, TWO, 99, (("count", ((8, 3),)),)))
        self.assertIsNone(told_best(program, TWO, 99, (("count", ()),)))
        # One without a return has too many steps.
        self.assertIsNone(told_best(program, TWO, 10 ** 60, (("count", (None,)),)))

    def test_another_clash(self):
        program = Program.read("array a 9 for i n { for j n { write a[i + j] } }")
        count = best_paper(program, TWO, 3)[0]
        for value in nests.Nest(program, 3).clashes(("j", "i")):
            self.assertEqual(told_best(program, TWO, 3, (count, ("clash", value))), best(program, TWO, 3))
        self.assertIsNone(told_best(program, TWO, 3, (count, ("clash", (0, 0, (0, 1), (1, 1))))))
        self.assertIsNone(told_best(program, TWO, 3, (count, ("count", (None,) * 4))))
        self.assertIsNone(told_best(program, TWO, 3, (("clash", (0, 0, (0, 1), (1, 0))),) * 2))


class BestErrorsTest(BestCase):

    def calls(self):
        return [lambda program, n, cuttings, weights: best(program, TWO, n, cuttings, weights=weights),
                lambda program, n, cuttings, weights: best_paper(program, TWO, n, cuttings, weights=weights),
                lambda program, n, cuttings, weights: told_best(program, TWO, n, None, cuttings, weights=weights)]

    def test_in_their_order(self):
        outside = Program.read("array a n for i 2*n { for j n { read a[0] write a[2*i] } }")
        uneven = Program.read("array a 9*n for i 2*n { for j n { read a[i] write a[2*i] } }")
        for call in self.calls():
            for n in [None, True, -1, 10 ** 60 + 1, "3"]:
                self.assertIs(self.told(lambda: call(outside, n, None, 5), InvalidNumber), n)
            self.assertEqual(self.told(lambda: call(outside, 3, None, 5), OutOfRange), 1)
            for value in NO_CUTTINGS:
                self.assertIs(self.told(lambda: call(uneven, 3, value, 5), InvalidBlocks), value)
            self.assertEqual(self.told(lambda: call(uneven, 3, ((), (("k", 2, "x"),)), 5), InvalidBlocks), "k")
            self.assertEqual(self.told(lambda: call(uneven, 3, ((), None, 5), 5), InvalidBlocks), None)
            self.assertEqual(self.told(lambda: call(uneven, 3, ((("i", 2, "n"),), None), 5), InvalidBlocks), "n")
            self.assertEqual(self.told(lambda: call(uneven, 3, ((),) * 61, 5), TooMany), "choices")
            for weights in [5, True, "", [], (), {("hit", 1): 1}, {("hit", 0): -1}, {("hit", 0): True},
                            {("thrown", 0): 1}, {"hit": 1}, {("hit", 0): 10 ** 30 + 1}]:
                self.assertIs(self.told(lambda: call(uneven, 3, ((),), weights), InvalidWeights), weights)
            self.assertEqual(self.told(lambda: call(uneven, 3, ((),), {}), Uneven), "a")
            self.assertEqual(self.told(lambda: call(uneven, 3, ((("i", 2, "x"),), ()), None), Uneven), "a")
            # Without rounds, nothing is uneven.
            call(uneven, 0, ((),), None)
        for value in NO_CUTTINGS:
            self.assertIs(self.told(lambda: list(choices(outside, value)), InvalidBlocks), value)
        self.assertIs(self.told(lambda: list(choices(outside, ((), None))), InvalidBlocks), None)

    def test_limits(self):
        many = Program.read("array a 99*n*n for i n { for j n { read a[n*i + 2*j] read a[i] } }")
        steps = Program.read("array a 9*n array b 9*n*n for i n { for j n { read b[n*j + i] read a[i] read a[2*i] } }")
        for call in self.calls()[:2]:
            self.assertEqual(self.told(lambda: call(steps, 10 ** 5, ((),), None), LimitExceeded), "steps")
        self.assertIsNone(told_best(steps, TWO, 10 ** 5, (("count", (None, None)),) * 2))
        best(many, TWO, 10)
        great = Program.read(f"array a {10 ** 40} for i {10 ** 6} {{ for j {10 ** 6} {{ for k {10 ** 6} {{ "
                             f"write a[{10 ** 20 + 39}*i + {10 ** 20 + 129}*j + {10 ** 20 + 151}*k] }} }} }}")
        for call in self.calls()[:2]:
            self.assertEqual(self.told(lambda: call(great, 0, ((),), None), LimitExceeded), "differences")
        self.assertIsNone(told_best(great, TWO, 0, None))
        self.assertIsNone(told_best(great, TWO, 0, (("count", ((0, 1),)),) * 6))


class BestInterfaceTest(unittest.TestCase):

    def test_example(self):
        self.assertEqual(best(ROWS, Cache(2, ((2, 1, "used", "back"),)), 4), (8, (0, ("j", "i"))))

    def test_parameters(self):
        front = ["program", "cache", "n"]
        for name, parameters in [("choices", ["program", "cuttings"]), ("variant", ["program", "choice", "cuttings"]),
                                 ("best", [*front, "cuttings", "weights"]), ("best_paper", [*front, "cuttings", "weights"]),
                                 ("told_best", [*front, "value", "cuttings", "weights"])]:
            function = getattr(module, name)
            told = inspect.signature(function).parameters
            self.assertEqual(list(told), parameters)
            self.assertEqual(told["cuttings"].default, ((),))
            if "weights" in told:
                self.assertEqual(told["weights"].kind, inspect.Parameter.KEYWORD_ONLY)
                self.assertIsNone(told["weights"].default)
            self.assertEqual(function.__module__, "farmisses.best")

    def test_nothing_is_changed(self):
        weights = {("hit", 0): 1}
        text = ROWS.tree()
        best(ROWS, TWO, 4, weights=weights)
        self.assertEqual((weights, ROWS.tree()), ({("hit", 0): 1}, text))
        self.assertEqual(list(permutations(("i", "j"))), [("i", "j"), ("j", "i")])


if __name__ == "__main__":
    unittest.main()
