"""Points 3 (a), 3 (b) and 14, and the interface of farmisses/walks.py."""

import inspect
import unittest

import oracle
import relations
from farmisses import walks
from farmisses.caches import Cache
from farmisses.errors import InvalidNumber, LimitExceeded, OutOfRange
from farmisses.machine import plain
from farmisses.papers import paper, told_steps
from farmisses.programs import Program
from farmisses.walks import contents, count, count_upto, length, lost

ONE = Cache.read("line 1 level 1 1 used back")
FOUR = Cache.read("line 4 level 2 2 used back")
SWEEP = Program.read("array a n for i n { write a[i] }")
SQUARE = Program.read("array a n*n array b n*n for i n { for k n { read a[n*i + k] write b[n*k + i] } }")
HARD = Program.read("array a 2*n for i n { read a[i] read a[2*i] }")
NO_TIMES = [-1, None, True, False, "1", 1.0, (1,), [], {}, b"1"]
NO_NUMBERS = [-1, 10 ** 60 + 1, None, True, "4", 1.0]


def some(random_, **more):
    """A program and a cache made by chance."""
    cache = oracle.some_cache(random_, 24)
    return oracle.some_program(random_, loops=random_.choice([1, 2, 3]), names=random_.choice(["a", "ab", "abc"]),
                               even=random_.random() < 0.7, **more), cache


class CountTest(unittest.TestCase):

    def test_against_playing(self):
        random_ = oracle.generator(14)
        returns = 0
        for _ in range(150):
            program, cache = some(random_)
            for n in [random_.randrange(4), random_.randrange(4, 12), random_.randrange(12, 30)]:
                if length(program, cache, n) <= 4000:
                    self.assertEqual(count(program, cache, n), plain(program, cache, n), (program.tree(), n))
                    returns += sum(entry is not None for entry in paper(program, cache, n))
        self.assertGreater(returns, 1000)

    def test_against_the_words_with_long_loops(self):
        random_ = oracle.generator(15)
        for _ in range(60):
            cache = oracle.some_cache(random_)
            program = oracle.some_program(random_, loops=1, even=True, names="ab")
            n = random_.randrange(200, 400)
            self.assertEqual(count(program, cache, n), oracle.tally(program, cache, n), (program.tree(), n))

    def test_arrays_in_the_same_sets(self):
        program = Program.read("array a n array b n array c n for i n { read a[i] read b[i] write c[i] }")
        for text in ["line 2 level 2 1 used back", "line 2 level 2 2 brought back", "line 1 level 4 2 second through",
                     "line 4 level 1 2 tree back level 2 4 second back level 3 3 brought through"]:
            for n in [24, 100, 101, 250]:
                self.assertEqual(count(program, Cache.read(text), n), plain(program, Cache.read(text), n))

    def test_factors_below_zero(self):
        program = Program.read("array a 3*n + 9 for i n { write a[3*n - 3*i + 5] read a[3*n - 3*i] }")
        for text in ["line 2 level 2 1 used back", "line 4 level 1 4 second back", "line 3 level 2 2 tree through"]:
            for n in [1, 2, 30, 31, 32, 200]:
                self.assertEqual(count(program, Cache.read(text), n), plain(program, Cache.read(text), n))

    def test_great_numbers_by_hand(self):
        for n in [10 ** 30, 10 ** 60, 10 ** 60 - 3, 10 ** 45 + 2]:
            lines = -(-n // 4)
            self.assertEqual(count(SWEEP, FOUR, n), {
                ("miss", 0, 0): lines, ("hit", 0, 0): n - lines, ("back", 0): lines - 4, ("thrown", 0, 0, 0): lines - 4})
            again = Program.read("array a n for k n { for i 8 { read a[i] } } for i n { flush }")
            self.assertEqual(count(again, FOUR, n), {("miss", 0, 0): 2, ("hit", 0, 0): 8 * n - 2})
            flushed = Program.read("array a n for i n { write a[i] flush }")
            self.assertEqual(count(flushed, FOUR, n), {("miss", 0, 0): n, ("back", 0): n})
            two = Program.read("array a n array b n for i n { read a[i] read b[n - 1 - i] }")
            self.assertEqual(count(two, ONE, n), {
                ("miss", 0, 0): n, ("miss", 0, 1): n, ("thrown", 0, 0, 1): n - 1, ("thrown", 0, 1, 0): n})
            nest = Program.read("array a n*n for i n { for k n { read a[n*i + k] } }")
            self.assertEqual(count(nest, ONE, n), {("miss", 0, 0): n * n, ("thrown", 0, 0, 0): n * n - 1})
            square = Program.read("array a n*n for i n { for k n { read a[n*k + i] } }")
            self.assertEqual(count(square, Cache.read("line 1 level 1 2 brought back"), n),
                             {("miss", 0, 0): n * n, ("thrown", 0, 0, 0): n * n - 2})

    def test_great_loops_that_do_nothing(self):
        program = Program.read("array a n for i n { for k n*n { } for l n { flush } } for j n - n { read a[n] }")
        self.assertEqual(count(program, FOUR, 10 ** 60), {})
        self.assertEqual(length(program, FOUR, 10 ** 60), 0)

    def test_far_apart_numbers_tell_alike(self):
        # The counts of a sweep over squares are polynomials in n for the n of one rest.
        values = [count(SQUARE, Cache.read("line 2 level 2 1 used back"), 60 + 4 * at) for at in range(4)]
        for key in values[0]:
            ones = [value[key] for value in values]
            self.assertEqual(ones[3] - 3 * ones[2] + 3 * ones[1] - ones[0], 0)
            great = count(SQUARE, Cache.read("line 2 level 2 1 used back"), 60 + 4 * 10 ** 50)[key]
            m = 10 ** 50
            self.assertEqual(great, ones[0] + m * (ones[1] - ones[0])
                             + m * (m - 1) // 2 * (ones[2] - 2 * ones[1] + ones[0]))

    def test_errors(self):
        for call in [count, length, lambda *three: count_upto(*three, -1), lambda *three: contents(*three, -1),
                     lambda *three: lost(*three, -1)]:
            for n in NO_NUMBERS:
                with self.assertRaises(InvalidNumber) as caught:
                    call(SWEEP, FOUR, n)
                self.assertIs(caught.exception.value, n)
            with self.assertRaises(OutOfRange) as caught:
                call(Program.read("array a n read a[0] read a[n]"), FOUR, 5)
            self.assertEqual(caught.exception.access, 1)

    def test_interface(self):
        for name, names in [("count", "(program, cache, n)"), ("length", "(program, cache, n)"),
                            ("count_upto", "(program, cache, n, time)"), ("contents", "(program, cache, n, time)"),
                            ("lost", "(program, cache, n, time)")]:
            self.assertEqual(str(inspect.signature(getattr(walks, name))), names)


class LengthTest(unittest.TestCase):

    def test_length(self):
        random_ = oracle.generator(16)
        for _ in range(60):
            program, cache = some(random_)
            events = list(oracle.events(program.tree(), 4))
            self.assertEqual(length(program, cache, 4), sum(len(event) == 4 for event in events))
        self.assertEqual(length(SQUARE, FOUR, 10 ** 60), 2 * 10 ** 120)
        self.assertEqual(length(HARD, FOUR, 10 ** 60), 2 * 10 ** 60)
        self.assertEqual(length(Program.read("array a 9 for i n - 9 { read a[0] } read a[0]"), FOUR, 3), 1)


class TimesTest(unittest.TestCase):

    def check(self, program, cache, n, time):
        names = program.arrays
        machine = oracle.played(program, cache, n, time)
        place = (program.tree(), cache.show(), n, time)
        self.assertEqual(count_upto(program, cache, n, time), machine.tally, place)
        self.assertEqual(contents(program, cache, n, time), machine.contents(names), place)
        self.assertEqual(lost(program, cache, n, time), machine.lost(names), place)

    def test_all_times_of_small_programs(self):
        random_ = oracle.generator(17)
        for _ in range(60):
            program, cache = some(random_)
            many = length(program, cache, 3)
            if many <= 150:
                for time in range(many + 1):
                    self.check(program, cache, 3, time)

    def test_some_times_of_longer_ones(self):
        random_ = oracle.generator(18)
        for _ in range(100):
            program, cache = some(random_, bounds=("n", "2*n", "n - 1"))
            for n in [9, 25]:
                many = length(program, cache, n)
                if many <= 4000:
                    for time in [0, many, random_.randrange(many + 1), random_.randrange(many + 1)]:
                        self.check(program, cache, n, time)

    def test_a_flush_behind_the_access_is_not_yet_done(self):
        program = Program.read("array a n flush for i n { write a[i] flush for k n { flush } } flush")
        for time in range(6):
            self.check(program, FOUR, 5, time)
        self.assertEqual(lost(program, FOUR, 10 ** 60, 10 ** 60), [(0, "a", (10 ** 60 - 1) // 4)])
        self.assertEqual(count_upto(program, FOUR, 10 ** 60, 10 ** 60).get(("back", 0)), 10 ** 60 - 1)
        self.assertEqual(lost(program, FOUR, 10 ** 60, 10 ** 59), [(0, "a", (10 ** 59 - 1) // 4)])
        self.assertEqual(contents(program, FOUR, 10 ** 60, 0), [[[], []]])

    def test_great_times(self):
        n = 10 ** 60
        cache = Cache.read("line 2 level 2 2 used back")
        for time in [10 ** 60, 10 ** 59 + 7, 10 ** 60 - 1]:
            last = (time - 1) // 2
            expected = [[], []]
            for line in [last, last - 1, last - 2, last - 3]:
                expected[line % 2].append(("a", line, True))
            self.assertEqual(contents(SWEEP, cache, n, time), [expected])
            self.assertEqual(lost(SWEEP, cache, n, time), [(0, "a", line) for line in range(last - 3, last + 1)])
            self.assertEqual(count_upto(SWEEP, cache, n, time)[("miss", 0, 0)], last + 1)
        # In the midst of the midst: row 10 ** 59, behind its first 12 accesses.
        nest = Program.read("array a n*n for i n { for k n { write a[n*i + k] } }")
        time = n * 10 ** 59 + 12
        self.assertEqual(lost(nest, cache, n, time), [(0, "a", (n * 10 ** 59) // 2 + line) for line in range(2, 6)])
        self.assertEqual(count_upto(nest, cache, n, time)[("miss", 0, 0)], n * 10 ** 59 // 2 + 6)

    def test_only_as_far_as_the_time(self):
        # Behind the sweep stands what no way comes through.
        program = Program.read("array a 2*n array b n for i n { write b[i] } for i n { read a[i] read a[2*i] }")
        n = 10 ** 60
        with self.assertRaises(LimitExceeded):
            count(program, FOUR, n)
        self.assertEqual(count_upto(program, FOUR, n, n)[("miss", 0, 0)], n // 4)
        self.assertEqual(len(lost(program, FOUR, n, n)), 4)
        # Lines of b are in nobody's way: those of a are missed as in a cache that is empty.
        alone = plain(HARD, FOUR, 250)
        tally = count_upto(program, FOUR, n, n + 500)
        for word in ["hit", "miss", "crowded"]:
            for access in [0, 1]:
                self.assertEqual(tally.get((word, 0, access + 1), 0), alone.get((word, 0, access), 0))
        with self.assertRaises(LimitExceeded):
            contents(program, FOUR, n, 2 * n)

    def test_times(self):
        for call in [count_upto, contents, lost]:
            for time in NO_TIMES + [6, 10 ** 60]:
                with self.assertRaises(InvalidNumber) as caught:
                    call(SWEEP, FOUR, 5, time)
                self.assertIs(caught.exception.value, time)
            call(SWEEP, FOUR, 5, 5)
            call(time=0, n=5, cache=FOUR, program=SWEEP)
            with self.assertRaises(InvalidNumber):
                call(Program.read(""), FOUR, 5, 1)
            # A wrong time is told also where no way would come through.
            with self.assertRaises(InvalidNumber):
                call(HARD, FOUR, 10 ** 60, -1)

    def test_lists_are_sorted_and_new(self):
        program = Program.read("array b n array a n for i n { write a[i] write b[i] }")
        cache = Cache.read("line 1 level 1 4 used back level 1 4 used through")
        self.assertEqual(lost(program, cache, 9, 6), [(0, "a", 1), (0, "a", 2), (0, "b", 1), (0, "b", 2)])
        contents(program, cache, 9, 6)[0][0].clear()
        self.assertEqual(contents(program, cache, 9, 6)[0], [[("b", 2, True), ("a", 2, True), ("b", 1, True),
                                                             ("a", 1, True)]])


class LimitTest(unittest.TestCase):

    def check_limit(self, program, n, is_limit, cache=FOUR):
        if is_limit:
            with self.assertRaises(LimitExceeded) as caught:
                count(program, cache, n)
            self.assertEqual(caught.exception.word, "steps")
        else:
            count(program, cache, n)

    def test_uneven_loops(self):
        self.assertEqual(paper(HARD, FOUR, 1000), (None,))
        # Each round has three steps.
        self.check_limit(HARD, 33333, False)
        self.check_limit(HARD, 333334, True)
        self.check_limit(HARD, 10 ** 60, True)

    def test_lines_that_wait(self):
        # The line of a[n - 1] stays, and is hit by the last access only: so each round differs.
        program = Program.read("array a n read a[n - 1] for i n { write a[i] }")
        through = Cache.read("line 1 level 1 1 used through")
        self.assertEqual(count(program, through, 9), {("miss", 0, 0): 1, ("miss", 0, 1): 8, ("hit", 0, 1): 1})
        self.check_limit(program, 49000, False, through)
        self.check_limit(program, 500001, True, through)

    def test_no_error_where_each_way_is_short(self):
        # Ways with four times the rounds of the shortest return make fewer than 100000 steps.
        program = Program.read("array a n*n array b n for i n { read b[i] for k n { read a[n*i + k] } }")
        for text in ["line 1 level 1 4 used back", "line 2 level 2 1 brought back", "line 4 level 2 2 used back",
                     "line 1 level 2 2 second back level 2 2 tree through"]:
            for n in [10 ** 60, 10 ** 60 - 1, 10 ** 59 + 3]:
                self.check_limit(program, n, False, Cache.read(text))

    def test_rounds_of_a_loop_with_returns(self):
        random_ = oracle.generator(19)
        seen = 0
        for _ in range(200):
            cache = oracle.some_cache(random_, 12)
            program = oracle.some_program(random_, loops=1, names="ab", even=True, bounds=("n", "2*n"))
            if [statement[0] for statement in program.body].count("for") != 1:
                continue
            n = random_.choice([7, 20, 45])
            [loop] = relations.run(program, cache, n)
            bound = len(loop.states)
            sums = [begin + many for begin in range(bound) for many in range(1, bound - begin)
                    if begin + many < min(30, bound) and relations.is_return(program, cache, n, loop, begin, many)]
            accesses = len(relations.made(loop.statement[3], n))
            outside = len(relations.flat(program.body)) - accesses
            steps = told_steps(program, cache, n, paper(program, cache, n))
            self.assertEqual((steps - outside) % (accesses + 1), 0)
            rounds = (steps - outside) // (accesses + 1)
            if sums:
                self.assertLessEqual(rounds, min(bound, 4 * min(sums)), (program.tree(), cache.show(), n))
                seen += rounds < bound
            else:
                self.assertLessEqual(rounds, bound)
        self.assertGreater(seen, 40)


if __name__ == "__main__":
    unittest.main()
