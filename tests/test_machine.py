"""Points 10 and 11, and the interface of farmisses/machine.py."""

import inspect
import unittest

import oracle
from farmisses.caches import Cache
from farmisses.errors import InvalidNumber, LimitExceeded, OutOfRange
from farmisses.machine import Memory, accesses, plain
from farmisses.programs import Program

ONE = Cache(1, ((1, 1, "used", "back"),))


def cache_of(*levels, line=1):
    return Cache(line, tuple(levels))


def played(cache, text, bases=(0, 100)):
    """The memory behind accesses like r0 or w12: to lines of array 0, in the order of their numbers."""
    memory = Memory(cache, list(bases))
    for number, word in enumerate(text.split()):
        if word == "flush":
            memory.flush()
        else:
            memory.play(0, int(word[1:]), word[0] == "w", number)
    return memory


def lines(memory, level=0, at=0):
    """The lines in the places of a set."""
    return [None if place is None else place[1] for place in memory.state[level][0][at][0]]


class AccessesTest(unittest.TestCase):

    def test_example(self):
        program = Program.read("array a n array b n for i n { read a[i] write b[i] }")
        tally = plain(program, Cache(2, ((2, 1, "used", "back"),)), 4)
        self.assertEqual(
            (list(accesses(program, 2)), sorted(tally.items())),
            ([(0, "a", 0), (1, "b", 0), (0, "a", 1), (1, "b", 1)],
             [(("back", 0), 2), (("crowded", 0, 0), 2), (("crowded", 0, 1), 2), (("miss", 0, 0), 4),
              (("miss", 0, 1), 4), (("thrown", 0, 0, 1), 2), (("thrown", 0, 1, 0), 4)]))

    def test_loops_in_loops(self):
        program = Program.read("array a 99 for i 2 { for k n { read a[10*i + k] } flush write a[i] } read a[98]")
        self.assertEqual(list(accesses(program, 2)), [
            (0, "a", 0), (0, "a", 1), (1, "a", 0), (0, "a", 10), (0, "a", 11), (1, "a", 1), (2, "a", 98)])
        self.assertEqual(list(accesses(program, 0)), [(1, "a", 0), (1, "a", 1), (2, "a", 98)])

    def test_great_loops_without_accesses_are_no_matter(self):
        program = Program.read("array a 9 for i n { flush for k n { } for m 0 { read a[0] } } read a[1]")
        self.assertEqual(list(accesses(program, 10 ** 60)), [(1, "a", 1)])

    def test_the_first_ones_of_many(self):
        found = accesses(Program.read("array a n*n for i n { for k n { read a[n*i + k] } }"), 10 ** 60)
        self.assertEqual([next(found) for _ in range(3)], [(0, "a", 0), (0, "a", 1), (0, "a", 2)])

    def test_against_the_words(self):
        random_ = oracle.generator(1)
        for _ in range(100):
            program = oracle.some_program(random_, loops=3)
            names = program.arrays
            expected = [(event[0], names[event[1]], event[2])
                        for event in oracle.events(program.tree(), 3) if len(event) == 4]
            self.assertEqual(list(accesses(program, 3)), expected)

    def test_errors_come_first(self):
        program = Program.read("array a n read a[0] read a[n]")
        for call in [lambda n: next(accesses(program, n)), lambda n: plain(program, ONE, n)]:
            with self.assertRaises(OutOfRange) as caught:
                call(1)
            self.assertEqual(caught.exception.access, 1)
            with self.assertRaises(InvalidNumber):
                call(-1)

    def test_interface(self):
        self.assertTrue(inspect.isgeneratorfunction(accesses))
        self.assertEqual(str(inspect.signature(accesses)), "(program, n)")
        self.assertEqual(str(inspect.signature(plain)), "(program, cache, n)")
        self.assertEqual(plain(n=2, cache=ONE, program=Program.read("")), {})
        self.assertEqual(list(accesses(n=2, program=Program.read(""))), [])


class RulesTest(unittest.TestCase):

    def test_used(self):
        memory = played(cache_of((1, 3, "used", "back")), "r1 r2 r3 r1 r4")
        self.assertEqual(lines(memory), [4, 1, 3])
        self.assertEqual(memory.tally, {("miss", 0, 0): 1, ("miss", 0, 1): 1, ("miss", 0, 2): 1, ("hit", 0, 3): 1,
                                        ("miss", 0, 4): 1, ("thrown", 0, 4, 1): 1})

    def test_brought(self):
        memory = played(cache_of((1, 3, "brought", "back")), "r1 r2 r3 r1 r4")
        self.assertEqual(lines(memory), [4, 3, 2])
        self.assertEqual(memory.tally[("thrown", 0, 4, 3)], 1)

    def test_the_order_with_empty_places(self):
        for rule, order in [("used", [1, 2, None, None]), ("brought", [2, 1, None, None]),
                            ("second", [1, 2, None, None]), ("tree", [1, 2, None, None])]:
            self.assertEqual(lines(played(cache_of((1, 4, rule, "back")), "r1 r2 r1")), order)

    def test_second(self):
        cache = cache_of((1, 3, "second", "back"))
        memory = played(cache, "r1 r2 r3")
        self.assertEqual(memory.state[0][0][0][1], (0, (False, False, False)))
        # The light of line 1 is put out, line 2 is thrown, and the pointer goes behind it.
        memory = played(cache, "r1 r2 r3 r1 r4")
        self.assertEqual((lines(memory), memory.state[0][0][0][1]), ([1, 4, 3], (2, (False, False, False))))
        # All lights are lit: one turn puts them out.
        memory = played(cache, "r1 r2 r3 r1 r2 r3 r4")
        self.assertEqual((lines(memory), memory.state[0][0][0][1]), ([4, 2, 3], (1, (False, False, False))))
        memory = played(cache, "r1 r2 r3 r4 r5 r2 r3 r6")
        self.assertEqual((lines(memory), memory.state[0][0][0][1]), ([3, 6, 2], (2, (False, False, False))))
        # The pointer stands still until the set is full, and hits light places then, too.
        memory = played(cache, "r1 r1 r2")
        self.assertEqual(memory.state[0][0][0], (((0, 1, False, 1), (0, 2, False, 2), None), (0, (True, False, False))))

    def test_second_with_one_place(self):
        memory = played(cache_of((1, 1, "second", "back")), "r1 r1 r2")
        self.assertEqual((lines(memory), memory.state[0][0][0][1]), ([2], (0, (False,))))

    def test_tree_with_four_places(self):
        cache = cache_of((1, 4, "tree", "back"))
        for text, order, bits in [
                ("", [None] * 4, (False, False, False)), ("r1", [1, None, None, None], (True, True, False)),
                ("r1 r2", [1, 2, None, None], (True, False, False)),
                ("r1 r2 r3", [1, 2, 3, None], (False, False, True)),
                ("r1 r2 r3 r4", [1, 2, 3, 4], (False, False, False)),
                ("r1 r2 r3 r4 r5", [5, 2, 3, 4], (True, True, False)),
                ("r1 r2 r3 r4 r5 r6", [5, 2, 6, 4], (False, True, True)),
                ("r1 r2 r3 r4 r5 r6 r7", [5, 7, 6, 4], (True, False, True)),
                ("r1 r2 r3 r4 r5 r6 r7 r8", [5, 7, 6, 8], (False, False, False)),
                ("r1 r2 r3 r4 r1 r5", [1, 2, 5, 4], (False, True, True))]:
            memory = played(cache, text)
            self.assertEqual((lines(memory), memory.state[0][0][0][1]), (order, bits), text)

    def test_tree_with_fewer_places(self):
        for text, order, bits in [("", [None, None], (False,)), ("r1", [1, None], (True,)), ("r1 r2", [1, 2], (False,)),
                                  ("r1 r2 r1 r3", [1, 3], (False,)), ("r1 r2 r3", [3, 2], (True,))]:
            memory = played(cache_of((1, 2, "tree", "back")), text)
            self.assertEqual((lines(memory), memory.state[0][0][0][1]), (order, bits), text)
        memory = played(cache_of((1, 1, "tree", "back")), "r1 r2")
        self.assertEqual((lines(memory), memory.state[0][0][0][1]), ([2], ()))

    def test_a_hit_is_the_last_use_by_all_rules(self):
        for rule in oracle.RULES:
            memory = played(cache_of((1, 1, rule, "back")), "r1 r1 r2")
            self.assertEqual(memory.tally, {("miss", 0, 0): 1, ("hit", 0, 1): 1, ("miss", 0, 2): 1,
                                            ("thrown", 0, 2, 1): 1})


class WritesTest(unittest.TestCase):

    def test_back(self):
        memory = played(cache_of((1, 1, "used", "back"), (1, 4, "used", "back")), "w1 r1 r2")
        self.assertEqual(memory.tally, {
            ("miss", 0, 0): 1, ("miss", 1, 0): 1, ("hit", 0, 1): 1, ("miss", 0, 2): 1, ("miss", 1, 2): 1,
            ("thrown", 0, 2, 1): 1, ("back", 0): 1, ("hit", 1, 2): 1})
        self.assertEqual(memory.state[1][0][0][0], ((0, 1, True, 2), (0, 2, False, 2), None, None))
        self.assertEqual(memory.state[0][0][0][0], ((0, 2, False, 2),))

    def test_a_hit_makes_dirty_and_a_read_leaves_it(self):
        memory = played(cache_of((1, 2, "brought", "back")), "r1 w1 r1")
        self.assertEqual(memory.state[0][0][0][0], ((0, 1, True, 2), None))

    def test_through(self):
        memory = played(cache_of((1, 2, "used", "through"), (1, 2, "used", "back")), "w1 r1 w1")
        self.assertEqual(memory.tally, {
            ("miss", 0, 0): 1, ("miss", 1, 0): 1, ("miss", 0, 1): 1, ("crowded", 0, 1): 1, ("hit", 1, 1): 1,
            ("hit", 0, 2): 1, ("hit", 1, 2): 1})
        self.assertEqual(memory.state[0][0][0][0], ((0, 1, False, 2), None))
        self.assertEqual(memory.state[1][0][0][0], ((0, 1, True, 2), None))

    def test_through_at_the_last_level(self):
        memory = played(cache_of((1, 1, "used", "back"), (1, 1, "used", "through")), "w1 w2")
        # Line 1 is written back behind the read of line 2, which has taken its place at level 1.
        self.assertEqual(memory.tally, {
            ("miss", 0, 0): 1, ("miss", 1, 0): 1, ("miss", 0, 1): 1, ("miss", 1, 1): 2, ("thrown", 1, 1, 0): 1,
            ("thrown", 0, 1, 0): 1, ("back", 0): 1})
        self.assertEqual(lines(memory, 1), [2])
        self.assertEqual(memory.state[1][1], ((0, 1),))

    def test_a_line_written_back_is_brought_to_the_next_level(self):
        memory = played(cache_of((2, 1, "used", "back"), (1, 1, "used", "back"), (1, 4, "used", "back")), "w0 r1 r2")
        self.assertEqual(memory.tally, {
            ("miss", 0, 0): 1, ("miss", 1, 0): 1, ("miss", 2, 0): 1,
            ("miss", 0, 1): 1, ("miss", 1, 1): 1, ("miss", 2, 1): 1, ("thrown", 1, 1, 0): 1,
            ("miss", 0, 2): 1, ("miss", 1, 2): 2, ("miss", 2, 2): 1, ("hit", 2, 2): 1, ("thrown", 1, 2, 1): 1,
            ("thrown", 0, 2, 0): 1, ("back", 0): 1, ("thrown", 1, 2, 2): 1})
        self.assertEqual([lines(memory, 0, 0), lines(memory, 0, 1), lines(memory, 1)], [[2], [1], [0]])
        self.assertEqual(memory.state[1][0][0][0], ((0, 0, True, 2),))


class ShadowTest(unittest.TestCase):

    def test_crowded(self):
        memory = played(cache_of((2, 1, "used", "back")), "r0 r2 r0 r4 r6 r0")
        self.assertEqual(memory.tally.get(("crowded", 0, 2)), 1)
        self.assertIsNone(memory.tally.get(("crowded", 0, 5)))
        self.assertEqual(memory.state[0][1], ((0, 0), (0, 6)))

    def test_hits_count_for_the_shadow(self):
        memory = played(cache_of((1, 3, "used", "back")), "r1 r2 r3 r1")
        self.assertEqual(memory.state[0][1], ((0, 1), (0, 3), (0, 2)))

    def test_each_level_has_its_own(self):
        memory = played(cache_of((1, 2, "used", "back"), (1, 3, "used", "back")), "r1 r2 r1 r3 r4")
        self.assertEqual(memory.state[0][1], ((0, 4), (0, 3)))
        self.assertEqual(memory.state[1][1], ((0, 4), (0, 3), (0, 2)))


class FlushTest(unittest.TestCase):

    def test_everything_is_empty(self):
        for rule in oracle.RULES:
            cache = cache_of((2, 2, rule, "back"), (1, 4, rule, "back"))
            memory = played(cache, "w0 w2 r4 w1 r1 r1 w1 flush")
            self.assertEqual(memory.state, Memory(cache, [0]).state)
            before = played(cache, "w0 w2 r4 w1 r1 r1 w1")
            dirty = [sum(place is not None and place[2] for places, _ in sets for place in places)
                     for sets, _ in before.state]
            for level in range(2):
                self.assertEqual(memory.tally.get(("back", level), 0),
                                 before.tally.get(("back", level), 0) + dirty[level])
            self.assertGreater(dirty[0], 0)
            self.assertEqual({key: many for key, many in memory.tally.items() if key[0] != "back"},
                             {key: many for key, many in before.tally.items() if key[0] != "back"})

    def test_nothing_crowds_behind_it(self):
        self.assertEqual(played(ONE, "r1 flush r1").tally, {("miss", 0, 0): 1, ("miss", 0, 2): 1})
        self.assertEqual(played(ONE, "flush").tally, {})
        self.assertEqual(played(ONE, "r1 flush").tally, {("miss", 0, 0): 1})


class MemoryTest(unittest.TestCase):

    def test_what_it_tells(self):
        bases = [0, 7]
        memory = Memory(ONE, bases)
        self.assertEqual((memory.cache, memory.played, memory.tally), (ONE, 0, {}))
        memory.play(1, 5, False, 12)
        memory.play(is_write=True, number=3, line=4, array=0)
        self.assertEqual(memory.played, 2)
        self.assertEqual(memory.tally, {("miss", 0, 12): 1, ("miss", 0, 3): 1, ("thrown", 0, 3, 12): 1})
        self.assertEqual(memory.state, ((((((0, 4, True, 3),), ()),), ((0, 4),)),))
        memory.flush()
        self.assertEqual(memory.played, 2)

    def test_sets_by_the_whole_memory(self):
        cache = cache_of((3, 1, "used", "back"))
        bases = [0, 4]
        memory = Memory(cache, bases)
        bases[1] = 0
        memory.play(0, 1, False, 0)
        memory.play(1, 1, False, 1)
        memory.play(1, 10 ** 60, False, 2)
        self.assertEqual([lines(memory, 0, at) for at in range(3)], [[None], [1], [10 ** 60]])
        self.assertEqual(memory.state[0][0][1][0], ((0, 1, False, 0),))
        self.assertEqual(memory.state[0][0][2][0], ((1, 10 ** 60, False, 2),))

    def test_equal_lines_of_two_arrays_are_two(self):
        memory = Memory(cache_of((1, 4, "used", "back")), [0, 10])
        memory.play(0, 1, False, 0)
        memory.play(1, 1, True, 1)
        memory.play(0, 1, False, 2)
        self.assertEqual(memory.state[0][0][0][0], ((0, 1, False, 2), (1, 1, True, 1), None, None))
        self.assertEqual(memory.state[0][1], ((0, 1), (1, 1)))

    def test_the_tally_is_a_copy(self):
        memory = played(ONE, "r1")
        memory.tally.clear()
        self.assertEqual(memory.tally, {("miss", 0, 0): 1})
        own = {("hit", 0, 4): 10 ** 60}
        memory.take(own)
        own.clear()
        self.assertEqual(memory.tally, {("hit", 0, 4): 10 ** 60})
        memory.play(0, 1, False, 4)
        self.assertEqual(memory.tally, {("hit", 0, 4): 10 ** 60 + 1})
        self.assertEqual(own, {})

    def test_put_and_take(self):
        random_ = oracle.generator(5)
        for _ in range(150):
            cache = oracle.some_cache(random_)
            one = Memory(cache, [0, 1000])
            self.play_some(random_, one)
            other = Memory(cache, [0, 1000])
            self.play_some(random_, other)
            tally = other.tally
            self.assertIsNone(other.put(one.state))
            self.assertEqual((other.state, other.tally), (one.state, tally))
            self.assertIsNone(other.take(one.tally))
            begun = random_.randrange(10 ** 9)
            for memory in [one, other]:
                self.play_some(oracle.generator(begun), memory)
            self.assertEqual((other.state, other.tally), (one.state, one.tally))

    def play_some(self, random_, memory):
        for _ in range(random_.choice([0, 3, 20, 60])):
            if random_.random() < 0.02:
                memory.flush()
            else:
                memory.play(random_.randrange(2), random_.randrange(12), random_.random() < 0.4, random_.randrange(3))

    def test_against_the_words(self):
        random_ = oracle.generator(6)
        for _ in range(400):
            cache = oracle.some_cache(random_)
            bases = [0, random_.choice([20, 21, 23])]
            memory, machine = Memory(cache, bases), oracle.Machine(cache.line, cache.levels, bases)
            for _ in range(random_.choice([5, 30, 80])):
                if random_.random() < 0.02:
                    memory.flush()
                    machine.flush()
                else:
                    access = (random_.randrange(2), random_.randrange(random_.choice([4, 12])),
                              random_.random() < 0.4, random_.randrange(3))
                    memory.play(*access)
                    machine.play(*access)
                self.assertEqual(memory.state, machine.state())
            self.assertEqual(memory.tally, machine.tally)

    def test_interface(self):
        self.assertEqual(str(inspect.signature(Memory)), "(cache, bases)")
        for name, names in [("play", "(self, array, line, is_write, number)"), ("flush", "(self)"),
                            ("put", "(self, state)"), ("take", "(self, tally)")]:
            self.assertEqual(str(inspect.signature(vars(Memory)[name])), names)
        for name in ["cache", "played", "tally", "state"]:
            self.assertIsInstance(vars(Memory)[name], property)


class PlainTest(unittest.TestCase):

    def test_against_the_words(self):
        random_ = oracle.generator(7)
        for _ in range(300):
            cache = oracle.some_cache(random_)
            program = oracle.some_program(random_, names=random_.choice(["a", "ab", "abc"]))
            for n in [0, 1, 2, 5]:
                self.assertEqual(plain(program, cache, n), oracle.tally(program, cache, n))

    def test_each_array_begins_with_a_new_line(self):
        program = Program.read("array a 5 array b n - 9 array c 4 array d 9 read a[4] read c[3] read d[0]")
        cache = cache_of((8, 1, "used", "back"), line=4)
        self.assertEqual(plain(program, cache, 3), oracle.tally(program, cache, 3))
        # The lines 1, 2 and 3 of the memory lie in different sets; with sets of two the first and the last meet.
        self.assertEqual(plain(program, cache_of((2, 1, "used", "back"), line=4), 3), {
            ("miss", 0, 0): 1, ("miss", 0, 1): 1, ("miss", 0, 2): 1, ("thrown", 0, 2, 0): 1})

    def test_a_tally_has_no_zeros(self):
        self.assertEqual(plain(Program.read("flush for i n { flush }"), ONE, 5), {})

    def check_steps(self, text, steps):
        """The steps of a program for n = 1 are steps; more of them come from a loop around."""
        self.assertLessEqual(steps, 400000)
        for more, is_refused in [(400000 - steps, False), (400001 - steps, True)]:
            program = Program.read(f"{text} for z {more} {{ }}")
            if is_refused:
                with self.assertRaises(LimitExceeded) as caught:
                    plain(program, ONE, 1)
                self.assertEqual(caught.exception.word, "steps")
            else:
                self.assertIsInstance(plain(program, ONE, 1), dict)

    def test_the_limit(self):
        self.check_steps("", 0)
        self.check_steps("array a n read a[0] flush", 2)
        self.check_steps("array a n for i 1000 { read a[0] flush for k 2 { } }", 5000)
        self.check_steps("array a n for i 133332 { read a[0] write a[0] }", 399996)

    def test_great_numbers(self):
        with self.assertRaises(LimitExceeded):
            plain(Program.read("for i n { }"), ONE, 10 ** 60)
        with self.assertRaises(OutOfRange):
            plain(Program.read("array a n for i n { } read a[n]"), ONE, 10 ** 60)


if __name__ == "__main__":
    unittest.main()
