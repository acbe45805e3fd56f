"""Points 3 (c), 12, 13 and 15, and the interface of farmisses/papers.py."""

import inspect
import unittest

import oracle
import relations
from farmisses import papers
from farmisses.caches import Cache
from farmisses.errors import InvalidNumber, LimitExceeded, OutOfRange
from farmisses.machine import plain
from farmisses.papers import paper, told_count, told_steps
from farmisses.programs import Program
from farmisses.walks import count

ONE = Cache.read("line 1 level 1 1 used back")
FOUR = Cache.read("line 4 level 2 2 used back")
SWEEP = Program.read("array a n for i n { write a[i] }")
NO_PAPERS = [None, True, 0, "", "paper", [], [None], {}, {"a": 1}, ((),), (0,), (True,), ((1,),), ((1, 1, 1),),
             ([1, 1],), (("1", 1),), ((1, "1"),), ((1, None),), ((None, 1),), ((True, 1),), ((1, True),),
             ((1.0, 1),), ((-1, 1),), ((1, 0),), ((1, -1),), ((0, 0),), ("no",), (b"no",), (((1, 1),),), b""]


class PaperCase(unittest.TestCase):

    def check_refused(self, program, cache, n, value):
        self.assertIsNone(told_count(program, cache, n, value), value)
        self.assertIsNone(told_steps(program, cache, n, value), value)

    def check_told(self, program, cache, n, value, steps):
        self.assertEqual(told_count(program, cache, n, value), plain(program, cache, n), value)
        self.assertEqual(told_steps(program, cache, n, value), steps, value)


class PapersTest(PaperCase):

    def test_papers_are_told(self):
        random_ = oracle.generator(20)
        seen = 0
        for _ in range(150):
            cache = oracle.some_cache(random_, 24)
            program = oracle.some_program(random_, loops=3, names=random_.choice(["a", "ab"]), even=True)
            n = random_.choice([2, 7, 19])
            try:
                shown = paper(program, cache, n)
            except LimitExceeded:
                continue
            self.assertIsInstance(shown, tuple)
            self.assertEqual(told_count(program, cache, n, shown), count(program, cache, n))
            steps = told_steps(program, cache, n, shown)
            self.assertLessEqual(steps, 100000)
            seen += sum(entry is not None for entry in shown)
            if shown:
                self.check_refused(program, cache, n, shown[:-1])
            self.check_refused(program, cache, n, shown + (None,))
        self.assertGreater(seen, 300)

    def test_papers_for_great_numbers(self):
        for n in [10 ** 60, 10 ** 60 - 1]:
            shown = paper(SWEEP, FOUR, n)
            self.assertEqual(told_count(SWEEP, FOUR, n, shown), count(SWEEP, FOUR, n))
            self.assertEqual(told_count(SWEEP, FOUR, n, ((16, 8),))[("miss", 0, 0)], -(-n // 4))
            self.assertEqual(told_steps(SWEEP, FOUR, n, ((16, 8),)), 2 * (24 + (n - 24) % 8))
            for value in [(None,), ((12, 8),), ((16, 7),), ((16, 12),), ((n - 8, 8),), ((n, 8),), ((0, 8),)]:
                self.check_refused(SWEEP, FOUR, n, value)

    def test_written_by_hand(self):
        # Places and shadow are full behind 13 rounds; the pace is 8.
        for value in [((13, 8),), ((16, 8),), ((16, 16),), ((17, 8),), ((21, 24),), ((31, 8),), ((16, 80),)]:
            begin, many = value[0]
            rounds = begin + many + (99 - begin - many) % many
            self.check_told(SWEEP, FOUR, 99, value, 2 * rounds)
        self.check_told(SWEEP, FOUR, 99, (None,), 198)
        for value in [((12, 8),), ((0, 8),), ((16, 4),), ((16, 1),), ((91, 8),), ((99, 8),), ((100, 8),), ((16, 83),),
                      ((16, 88),), (None, None), (), ((16, 8), None), ((16, 8), (16, 8)), (None, (16, 8))]:
            self.check_refused(SWEEP, FOUR, 99, value)
        self.check_told(SWEEP, FOUR, 25, ((16, 8),), 50)
        self.check_refused(SWEEP, FOUR, 24, ((16, 8),))

    def test_loops_in_the_order_in_which_they_begin(self):
        program = Program.read("array a 9 for i n { for k 2 { } read a[0] for l n - n { flush } } for i 3 { read a[0] }")
        value = (None, *(None, None) * 3, None)
        self.check_told(program, ONE, 3, value, 3 * 4 + 6)
        self.check_refused(program, ONE, 3, value[1:])
        # The rounds from the second on are alike; of seven rounds, two are done.
        self.check_told(program, ONE, 7, ((1, 1), None, None, None, None, None), 2 * 4 + 6)
        self.check_told(program, ONE, 7, ((1, 2), *(None, None) * 3, None), 3 * 4 + 6)
        self.check_told(program, ONE, 7, ((1, 3), *(None, None) * 4, None), 4 * 4 + 6)
        self.check_told(program, ONE, 7, ((1, 4), *(None, None) * 7, None), 7 * 4 + 6)
        self.check_refused(program, ONE, 7, ((1, 1), None, (0, 1), None, None, None))
        self.check_refused(program, ONE, 7, (None, (1, 1), None, None, None, None))
        self.check_refused(program, ONE, 7, ((0, 1), None, None, None, None, None))

    def test_for_another_number(self):
        shown = paper(SWEEP, FOUR, 99)
        self.assertNotEqual(shown, (None,))
        self.check_refused(SWEEP, FOUR, 20, shown)
        self.check_told(SWEEP, FOUR, 107, shown, told_steps(SWEEP, FOUR, 99, shown))
        nest = Program.read("array a n*n for i n { for k n { read a[n*i + k] } }")
        self.assertEqual(told_count(nest, ONE, 40, paper(nest, ONE, 50)), count(nest, ONE, 40))
        self.check_refused(nest, FOUR, 41, paper(nest, FOUR, 40))

    def test_uneven_loops_have_none(self):
        program = Program.read("array a 4*n for i n { read a[i] read a[2*i] }")
        self.check_refused(program, ONE, 30, ((8, 4),))
        self.check_told(program, ONE, 30, (None,), 90)
        program = Program.read("array a 4*n for i n { read a[i] for k 1 { read a[2*i] } }")
        self.check_refused(program, ONE, 30, ((8, 4), *(None,) * 12))
        self.check_refused(program, ONE, 30, ((8, 1), *(None,) * 9))
        self.assertEqual(paper(program, ONE, 30), (None,) * 31)
        # An access in a loop without rounds is not made, so the factors are equal.
        program = Program.read("array a 4*n for i n { read a[i] for k n - 30 { read a[2*i] } }")
        value = ((1, 1), None, None)
        self.check_told(program, ONE, 30, value, 4)
        self.check_refused(program, ONE, 31, value)

    def test_a_hundred_thousand_steps(self):
        program = Program.read("array a 4*n for i n { read a[i] }")
        self.assertEqual(told_steps(program, ONE, 50000, (None,)), 100000)
        self.assertEqual(told_count(program, ONE, 50000, (None,)), count(program, ONE, 50000))
        self.check_refused(program, ONE, 50001, (None,))
        self.assertEqual(told_steps(program, ONE, 10 ** 60, ((49998, 1),)), 2 * 49999)
        self.assertEqual(told_steps(program, ONE, 10 ** 60, ((49999, 1),)), 100000)
        self.check_refused(program, ONE, 10 ** 60, ((50000, 1),))

    def test_no_papers(self):
        for value in NO_PAPERS:
            self.check_refused(SWEEP, FOUR, 99, value)
        self.assertEqual(told_count(Program.read(""), ONE, 0, ()), {})
        self.check_refused(Program.read(""), ONE, 0, [])

    def test_errors(self):
        for call in [paper, lambda *three: told_count(*three, None), lambda *three: told_steps(*three, None)]:
            with self.assertRaises(InvalidNumber):
                call(SWEEP, FOUR, True)
            with self.assertRaises(OutOfRange) as caught:
                call(Program.read("array a n read a[0] read a[n]"), FOUR, 3)
            self.assertEqual(caught.exception.access, 1)
        with self.assertRaises(LimitExceeded) as caught:
            paper(Program.read("array a 4*n for i n { read a[i] read a[2*i] }"), ONE, 10 ** 60)
        self.assertEqual(caught.exception.word, "steps")

    def test_interface(self):
        for name, names in [("paper", "(program, cache, n)"), ("told_count", "(program, cache, n, value)"),
                            ("told_steps", "(program, cache, n, value)")]:
            self.assertEqual(str(inspect.signature(getattr(papers, name))), names)
        self.assertEqual(told_count(value=(None,), n=1, cache=ONE, program=SWEEP), {("miss", 0, 0): 1})


class ReturnsTest(PaperCase):
    """Each pair (R, P) of a loop, judged by the words of points 12 and 13."""

    def check_loop(self, program, cache, n, begun, loop, pairs):
        found = 0
        for begin, many in pairs:
            value = tuple(relations.paper_with(begun, loop, begin, many))
            is_return = relations.is_return(program, cache, n, loop, begin, many)
            told = told_count(program, cache, n, value)
            self.assertEqual(told is not None, is_return, (program.tree(), cache.show(), n, value))
            if is_return:
                self.assertEqual(told, plain(program, cache, n))
                found += 1
        return found

    def check_all(self, text, cache, n, least):
        program = Program.read(text)
        begun = relations.run(program, Cache.read(cache), n)
        found = 0
        for loop in relations.all_begun(begun):
            rounds = len(loop.states)
            pairs = [(begin, many) for begin in range(rounds + 1) for many in range(1, rounds + 1)]
            found += self.check_loop(program, Cache.read(cache), n, begun, loop, pairs)
        self.assertGreaterEqual(found, least, text)

    def test_by_chance(self):
        random_ = oracle.generator(21)
        found = 0
        for _ in range(200):
            cache = oracle.some_cache(random_, 8)
            program = oracle.some_program(random_, names=random_.choice(["a", "ab"]), even=random_.random() < 0.8,
                                          bounds=("n", "n", "n - 1", "3"))
            n = random_.choice([3, 5, 8, 13])
            begun = relations.run(program, cache, n)
            loops = relations.all_begun(begun)
            if len(loops) > 40:
                continue
            for loop in random_.sample(loops, min(2, len(loops))):
                rounds = len(loop.states)
                pairs = [(random_.randrange(rounds + 2), random_.randrange(1, rounds + 2)) for _ in range(25)]
                found += self.check_loop(program, cache, n, begun, loop, pairs)
        self.assertGreater(found, 500)

    def test_lines_that_sleep_behind_the_loop(self):
        # The line of a[0] stays in its set; the others pass by.
        self.check_all("array a 90 write a[0] for i 12 { read a[2*i + 3] }", "line 1 level 2 2 used back", 0, 20)
        self.check_all("array a 90 write a[70] for i 12 { read a[3*i + 3] }", "line 1 level 3 2 brought through", 0, 5)

    def test_lines_that_sleep_between_the_indexes(self):
        # The odd lines lie among the even ones, but none of them is touched.
        self.check_all("array a 90 read a[21] for i 14 { write a[2*i] }", "line 1 level 2 2 used back", 0, 20)
        self.check_all("array a 90 read a[21] for i 14 { write a[2*i + 1] }", "line 1 level 2 1 used through", 0, 0)
        self.check_all("array a 90 read a[21] for i 14 { write a[i] }", "line 1 level 1 2 used through", 0, 0)
        self.check_all("array a 99 read a[30] for i 9 { for k 3 { write a[8*i + 2*k] } }",
                       "line 2 level 4 1 second through", 0, 0)

    def test_lines_of_other_arrays_stay(self):
        self.check_all("array b 9 array a 90 write b[0] write b[1] for i 14 { read a[2*i] }",
                       "line 1 level 2 2 used back", 0, 20)
        self.check_all("array b 9 array a 90 write b[1] for i 14 { write a[2*i] }", "line 1 level 2 2 tree through", 0, 20)

    def test_arrays_that_move_apart(self):
        self.check_all("array a 99 array b 99 for i 14 { read a[i] write b[40 - 2*i] }", "line 2 level 2 2 used back",
                       0, 5)
        self.check_all("array a 99 array b 99 for i 14 { read a[i] read b[0] write a[i + 3] }",
                       "line 2 level 1 4 used back level 2 2 brought through", 0, 2)

    def test_the_ends_of_what_a_loop_touches(self):
        through = "line 1 level 1 4 used through"
        for line in [6, 7, 8, 19, 20, 21, 22]:
            self.check_all(f"array a 99 read a[{line}] for i 10 {{ for k 3 {{ write a[2*i + k] }} }}", through, 0, 0)
            self.check_all(f"array a 99 read a[{line}] for i 10 {{ for k 3 {{ write a[40 - 2*i - k] }} }}", through, 0, 0)
            self.check_all(f"array a 99 read a[{line}] for i 10 {{ for k 3 {{ write a[2*i - k + 2] }} }}", through, 0, 0)
        for line in [36, 37, 38, 39, 40, 41]:
            self.check_all(f"array a 99 read a[{line}] for i 10 {{ for k 2 {{ write a[4*i + k] }} }}",
                           "line 2 level 1 2 used through", 0, 0)
            self.check_all(f"array a 99 for k 2 {{ for l 2 {{ read a[{line}] for i 6 {{ write a[4*i + 20*k] }} }} }}",
                           "line 2 level 1 2 used through", 0, 0)

    def test_the_places_between_that_are_not_touched(self):
        for line in [15, 16, 17, 18, 22, 23, 24]:
            self.check_all(f"array a 199 read a[{line}] for i 6 {{ for k 2 {{ write a[8*i + k] }} }}",
                           "line 1 level 8 1 used through", 0, 0)
            self.check_all(f"array a 199 read a[{line}] for i 6 {{ for k 2 {{ write a[41 - 8*i - k] }} }}",
                           "line 1 level 8 1 used through", 0, 0)
            self.check_all(f"array a 199 read a[{line}] for i 6 {{ for k 3 {{ write a[4*i + 6*k] }} }}",
                           "line 1 level 4 2 used through", 0, 0)
        for line in [19, 20, 21, 22, 23, 24]:
            self.check_all(f"array a 199 read a[{line}] for i 10 {{ write a[4*i + 1] }}",
                           "line 2 level 2 1 used through", 0, 0)
            self.check_all(f"array a 199 read a[{line}] for i 10 {{ write a[6*i + 2] }}",
                           "line 3 level 2 1 used through", 0, 0)

    def test_inner_loops(self):
        self.check_all("array a 99 for i 6 { for k 5 { read a[4*i + k] } write a[4*i] }", "line 2 level 2 2 used back",
                       0, 5)
        self.check_all("array a 99 for k 2 { for i 6 { read a[30*k + 2*i] } flush }", "line 2 level 1 2 second back",
                       0, 5)


if __name__ == "__main__":
    unittest.main()
