"""Point 9, and the interface of farmisses/caches.py."""

import inspect
import unittest

from farmisses.caches import Cache
from farmisses.errors import InvalidCache, InvalidSyntax, InvalidText, TooLarge

LEVEL = (1, 1, "used", "back")
TEXT = "line 4 level 2 2 used back level 3 4 tree through"


class CacheCase(unittest.TestCase):

    def told(self, kind, call, *arguments):
        with self.assertRaises(kind) as caught:
            call(*arguments)
        self.assertIs(type(caught.exception), kind)
        return list(vars(caught.exception).values())[0]


class MakingTest(CacheCase):

    def test_lines(self):
        for line in range(1, 9):
            self.assertEqual(Cache(line, (LEVEL,)).line, line)
        for line in [0, 9, -1, True, False, None, "4", 1.0, (1,), [], 10 ** 60]:
            self.assertIs(self.told(InvalidCache, Cache, line, (LEVEL,)), line)
            self.assertIs(self.told(InvalidCache, Cache, line, None), line)

    def test_numbers_of_levels(self):
        for many in [1, 2, 3]:
            cache = Cache(1, (LEVEL,) * many)
            self.assertEqual((len(cache), cache.levels), (many, (LEVEL,) * many))
        for levels in [(), (LEVEL,) * 4, [LEVEL], None, LEVEL[0], "used", {1: LEVEL}, (None,) * 4]:
            self.assertIs(self.told(InvalidCache, Cache, 1, levels), levels)

    def test_levels_that_are_taken(self):
        for sets in range(1, 9):
            for ways in range(1, 5):
                for rule in ["used", "brought", "second", "tree"]:
                    for writes in ["back", "through"]:
                        level = (sets, ways, rule, writes)
                        if (ways, rule) != (3, "tree"):
                            self.assertEqual(Cache(1, (level,)).levels, (level,))

    def test_levels_that_are_refused(self):
        for level in [(0, 1, "used", "back"), (9, 1, "used", "back"), (1, 0, "used", "back"), (1, 5, "used", "back"),
                      (True, 1, "used", "back"), (1, True, "used", "back"), (1, 1, "lru", "back"),
                      (1, 1, "back", "used"), (1, 1, "used", "used"), (1, 1, None, "back"), (1, 1, "used", None),
                      (1, 1, "used"), (1, 1, "used", "back", 1), [1, 1, "used", "back"], (1, 3, "tree", "back"),
                      (), None, 1, "used", (None,) * 4, (1.0, 1, "used", "back"), ("1", 1, "used", "back"),
                      (1, 1, ["used"], "back"), (-1, 1, "used", "back")]:
            for levels in [(level,), (LEVEL, level), (LEVEL, level, LEVEL), (level, (0, 0, 0, 0))]:
                self.assertIs(self.told(InvalidCache, Cache, 1, levels), level)

    def test_period(self):
        for line, sets, together in [(1, (1,), 1), (4, (2, 3), 6), (8, (8,), 8), (1, (8, 7), 56), (2, (4, 6), 12),
                                     (4, (3, 5), 15), (3, (2, 4, 5), 20), (8, (8, 4, 2), 8), (5, (6, 4), 12)]:
            cache = Cache(line, tuple((many, 1, "used", "back") for many in sets))
            self.assertEqual((cache.sets_together, cache.period), (together, together * line))
        for line, sets in [(2, (8, 5)), (8, (8, 3)), (5, (7, 2)), (1, (8, 7, 3)), (1, (5, 7, 2)), (3, (8, 6))]:
            self.assertEqual(self.told(TooLarge, Cache, line, tuple((many, 1, "used", "back") for many in sets)),
                             "period")

    def test_period_comes_last(self):
        bad = (9, 1, "used", "back")
        levels = ((8, 1, "used", "back"), (7, 1, "used", "back"), bad)
        self.assertIs(self.told(InvalidCache, Cache, 8, levels), bad)

    def test_equality(self):
        cache = Cache.read(TEXT)
        self.assertEqual(cache, Cache(4, ((2, 2, "used", "back"), (3, 4, "tree", "through"))))
        for other in [Cache.read(TEXT.replace("line 4", "line 2")), Cache.read(TEXT.replace("back", "through")),
                      Cache.read(TEXT[:26]), TEXT, None, 4, cache.levels]:
            self.assertNotEqual(cache, other)

    def test_interface(self):
        self.assertEqual(str(inspect.signature(Cache)), "(line, levels)")
        self.assertEqual(Cache(levels=(LEVEL,), line=2), Cache(2, (LEVEL,)))
        for name in ["line", "levels", "sets_together", "period"]:
            self.assertIsInstance(vars(Cache)[name], property)
        for name in ["__len__", "__eq__", "show"]:
            self.assertIn(name, vars(Cache))
        self.assertIsInstance(vars(Cache)["read"], classmethod)

    def test_example(self):
        cache = Cache.read(TEXT)
        self.assertEqual((cache.sets_together, cache.period, cache.levels[1], cache.show() == TEXT),
                         (6, 24, (3, 4, "tree", "through"), True))


class TextTest(CacheCase):

    def check_position(self, text, position):
        self.assertEqual(self.told(InvalidSyntax, Cache.read, text), position, text)

    def test_texts_are_read_back(self):
        for cache in [Cache(1, (LEVEL,)), Cache.read(TEXT), Cache(8, ((8, 4, "second", "through"),) * 3),
                      Cache(3, ((5, 3, "brought", "back"), LEVEL))]:
            self.assertEqual(Cache.read(cache.show()), cache)
        self.assertEqual(Cache(3, ((5, 3, "brought", "back"), LEVEL)).show(),
                         "line 3 level 5 3 brought back level 1 1 used back")

    def test_gaps(self):
        self.assertEqual(Cache.read("\n line\n4 level 2  2 used back\nlevel 3 4 tree through \n"), Cache.read(TEXT))

    def test_positions(self):
        for end in range(len(TEXT)):
            text = TEXT[:end]
            words = text.split()
            # What is cut off inside of a word or number is wrong there, or may be a shorter one.
            if text.endswith(" ") or not text:
                if words != ["line", "4"] and words != TEXT.split()[:7]:
                    self.check_position(text, end)
        self.check_position("", 0)
        self.check_position("lin", 0)
        self.check_position("line", 4)
        self.check_position("line x", 5)
        self.check_position("line4", 0)
        self.check_position("line 04", 5)
        self.check_position("line 4 levels 1 1 used back", 7)
        self.check_position("line 4 level 1 used back", 15)
        self.check_position("line 4 level 1 1 lru back", 17)
        self.check_position("line 4 level 1 1 back used", 17)
        self.check_position("line 4 level 1 1 used used", 22)
        self.check_position("line 4 level 1 1 used back level", 32)
        self.check_position("line 4 level 1 1 used back;", 26)
        self.check_position("line 4 level 1 1 used back back", 27)
        self.check_position("line 4 level -1 1 used back", 13)
        self.check_position("line 4 level 1 1 used line", 22)
        self.check_position(" line 4 4", 8)
        self.check_position("line 4\tlevel 1 1 used back", 6)
        self.check_position("line 4 level 1 1 Used back", 17)
        self.check_position("line 9 level 9 9 used bac", 22)

    def test_numbers(self):
        great = "9" * 150
        self.assertEqual(self.told(InvalidCache, Cache.read, f"line {great}"), int(great))
        self.assertEqual(self.told(TooLarge, Cache.read, f"line {great}9"), "numbers")
        self.assertEqual(self.told(TooLarge, Cache.read, f"line 9 level 1 {great}9 x"), "numbers")
        self.check_position(f"line 9 level 1 x {great}9", 15)
        self.check_position(f"line 9 {great}9", 7)
        self.check_position(f"line 0{great}", 5)

    def test_then_as_cache(self):
        self.assertEqual(self.told(InvalidCache, Cache.read, "line 0"), 0)
        self.assertEqual(self.told(InvalidCache, Cache.read, "line 4"), ())
        four = " level 1 1 used back" * 4
        self.assertEqual(self.told(InvalidCache, Cache.read, "line 4" + four), (LEVEL,) * 4)
        self.assertEqual(self.told(InvalidCache, Cache.read, "line 4 level 1 3 tree back"), (1, 3, "tree", "back"))
        self.assertEqual(self.told(TooLarge, Cache.read, "line 8 level 8 1 used back level 7 1 used back"), "period")

    def test_no_texts(self):
        for value in [None, 0, True, b"line 4", ["line"], (TEXT,), object()]:
            self.assertIs(self.told(InvalidText, Cache.read, value), value)


if __name__ == "__main__":
    unittest.main()
