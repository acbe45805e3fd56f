"""Points 3 (i) and 5, reading by point 6, and the interface of farmisses/texts.py."""

import inspect
import unittest

from farmisses import texts
from farmisses.errors import FarError, InvalidSyntax, InvalidText, TooLarge
from farmisses.texts import is_name, parse, parse_block, parse_size

KEYWORDS = ["array", "for", "read", "write", "flush", "n"]
NO_TEXTS = [None, True, 7, b"array a n", ("flush",), ["flush"], {"flush": 1}, object()]
READERS = [parse, parse_size, parse_block]
LONGEST = "9" * 150
TOO_LONG = "1" + "0" * 150


def told(reader, text):
    """The error of a text, as a pair of its class and its field."""
    try:
        reader(text)
    except InvalidSyntax as error:
        return (InvalidSyntax, error.position)
    except TooLarge as error:
        return (TooLarge, error.word)
    except InvalidText as error:
        return (InvalidText, error.value)
    return None


def loops(many, inner=""):
    return "for i n { " * many + inner + " }" * many


class TextsCase(unittest.TestCase):

    def check_position(self, reader, text, position):
        self.assertEqual(told(reader, text), (InvalidSyntax, position), (reader.__name__, text))

    def check_large(self, reader, text, word):
        self.assertEqual(told(reader, text), (TooLarge, word), (reader.__name__, text))


class NamesTest(TextsCase):

    def test_names(self):
        for name in ["a", "z", "i", "nn", "n1", "forx", "arrays", "reads", "kind", "line",
                     "a0", "x9y8", "o", "m", "q" * 20]:
            self.assertTrue(is_name(name), name)

    def test_keywords_are_no_names(self):
        for name in KEYWORDS:
            self.assertFalse(is_name(name), name)

    def test_other_values_are_no_names(self):
        for value in ["", " ", "A", "aB", "1", "1a", "0", "a b", " a", "a ", "a\n", "\n", "a_b",
                      "_a", "a-b", "a*b", "{", "\u00e9", "a\u00e9", "\u0661", "a\u0661", "aa(",
                      "a\t", "a\0", *NO_TEXTS, [], (), 1.5, b"a", ["a"], ("a",)]:
            self.assertIs(is_name(value), False, value)

    def test_interface(self):
        for function, names in [(is_name, ["value"]), (parse, ["text"]), (parse_size, ["text"]),
                                (parse_block, ["text"])]:
            self.assertEqual(list(inspect.signature(function).parameters), names)
            self.assertEqual(function.__module__, "farmisses.texts")
        self.assertTrue(texts.is_name(value="a"))
        self.assertEqual(parse(text=""), ((), ()))
        self.assertEqual(parse_size(text="n"), (0, 1))
        self.assertEqual(parse_block(text="flush"), (("flush",),))


class TreesTest(TextsCase):

    def test_example_of_the_document(self):
        tree = parse('array a 2*n*n for i n { read a[n*i + 3 - 1 + n*i] }')
        self.assertEqual(
            (tree, parse_size('n - 5 + 2*n')),
            (((('a', (0, 0, 2)),),
              (('for', 'i', (0, 1), (('read', 'a', ((2,), (('i', (0, 2)),))),)),)),
             (-5, 3)))

    def test_examples_of_other_points(self):
        text = ('array a n*n array b n for i n { for j n - 1 '
                '{ read a[n*i + j + 1] write b[i] } }')
        read = ('read', 'a', ((1,), (('i', (0, 1)), ('j', (1,)))))
        write = ('write', 'b', ((), (('i', (1,)),)))
        self.assertEqual(parse(text), (
            (('a', (0, 0, 1)), ('b', (0, 1))),
            (('for', 'i', (0, 1), (('for', 'j', (-1, 1), (read, write)),)),)))

    def test_empty_texts(self):
        for text in ["", " ", "\n", " \n \n"]:
            self.assertEqual(parse(text), ((), ()))
            self.assertEqual(parse_block(text), ())
            self.check_position(parse_size, text, len(text))

    def test_arrays_alone_and_block_alone(self):
        self.assertEqual(parse("array a n array b 5"), ((("a", (0, 1)), ("b", (5,))), ()))
        self.assertEqual(parse("flush flush"), ((), (("flush",), ("flush",))))

    def test_names_are_not_checked(self):
        self.assertEqual(parse("array a n array a n for a n { for a n { read b[c] } }"), (
            (("a", (0, 1)), ("a", (0, 1))),
            (("for", "a", (0, 1),
              (("for", "a", (0, 1), (("read", "b", ((), (("c", (1,)),))),)),)),)))

    def test_blocks(self):
        block = parse_block("for i n { } flush for j 2 { flush } write a[0]")
        self.assertEqual(block, (("for", "i", (0, 1), ()), ("flush",),
                                 ("for", "j", (2,), (("flush",),)),
                                 ("write", "a", ((), ()))))

    def test_sizes(self):
        for text, parts in [
                ("0", ()), ("-0", ()), ("0*n", ()), ("7", (7,)), ("-7", (-7,)), ("n", (0, 1)),
                ("-n", (0, -1)), ("n*n", (0, 0, 1)), ("n*n*n", (0, 0, 0, 1)),
                ("3*n*n*n", (0, 0, 0, 3)), ("2*n + 3", (3, 2)), ("3 + 2*n", (3, 2)),
                ("1 + 2 + 3", (6,)), ("n + n", (0, 2)), ("n - n", ()), ("5 - n - 5", (0, -1)),
                ("n*n - n*n + 4", (4,)), ("10 - 4*n - 3*n*n", (10, -4, -3)), ("1*n", (0, 1)),
                ("2*n*n*n - 2*n*n*n", ())]:
            self.assertEqual(parse_size(text), parts, text)

    def test_indexes(self):
        for text, index in [
                ("0", ((), ())), ("i", ((), (("i", (1,)),))), ("-i", ((), (("i", (-1,)),))),
                ("n", ((0, 1), ())), ("n*i", ((), (("i", (0, 1)),))),
                ("3*n*n*i", ((), (("i", (0, 0, 3)),))), ("5*i - 4", ((-4,), (("i", (5,)),))),
                ("n*n*n*i", ((), (("i", (0, 0, 0, 1)),))),
                ("j + i", ((), (("i", (1,)), ("j", (1,))))),
                ("b + a1 + aa + a", ((), (("a", (1,)), ("a1", (1,)), ("aa", (1,)), ("b", (1,))))),
                ("i + n*i + 2*n*n*i", ((), (("i", (1, 1, 2)),))),
                ("n*i - i + 7 - 2*n + i - 7", ((0, -2), (("i", (0, 1)),)))]:
            self.assertEqual(parse_block(f"read a[{text}]"), (("read", "a", index),), text)

    def test_factors_that_become_0_are_left_out(self):
        for text, index in [("i - i", ((), ())), ("0*i", ((), ())), ("0*n*i + 2", ((2,), ())),
                            ("n*i + j - n*i", ((), (("j", (1,)),))),
                            ("2*i - i - i + 3 - 3", ((), ()))]:
            self.assertEqual(parse_block(f"write b[{text}]"), (("write", "b", index),), text)

    def test_kinds_of_values(self):
        arrays, block = parse("array a n for i n { read a[i] }")
        self.assertIs(type(arrays), tuple)
        self.assertIs(type(arrays[0]), tuple)
        self.assertIs(type(block), tuple)
        self.assertIs(type(block[0][3][0][2][1][0][1]), tuple)


class TokensTest(TextsCase):

    def test_other_gaps(self):
        tree = parse("array a n*n + 1 for i n - 1 { read a[2*n*i + 3] }")
        for text in ["array a n*n+1 for i n-1{read a[2*n*i+3]}",
                     "\narray\na\nn\n*\nn\n+\n1\nfor\ni\nn\n-\n1\n{\nread\na\n[\n2*n*i\n+3\n]\n}\n",
                     "  array   a   n * n + 1   for i n -1 {read a [ 2 * n * i +3 ] } \n "]:
            self.assertEqual(parse(text), tree, text)

    def test_signs_need_no_gaps(self):
        self.assertEqual(parse_block("for i n{for j n{}}flush"),
                         parse_block("for i n { for j n { } } flush"))

    def test_a_run_is_one_token(self):
        self.check_position(parse, "arraya n", 0)
        self.check_position(parse, "array a 2n", 8)
        self.check_position(parse, "array 2a n", 6)
        self.check_position(parse_size, "2n", 0)
        self.check_position(parse_size, "n2", 0)
        self.check_position(parse_size, "3 + 0x", 4)
        self.check_position(parse_block, "read a[2i]", 7)
        self.check_position(parse_block, "for i 1for j 1 { }", 6)
        self.check_position(parse_block, "flushflush", 0)
        self.assertEqual(parse("array n1 n")[0], (("n1", (0, 1)),))

    def test_leading_zeros(self):
        for text in ["00", "01", "007", "0" * 200, "0" + LONGEST]:
            self.check_position(parse_size, text, 0)
            self.check_position(parse_block, f"read a[i + {text}]", 11)
        self.assertEqual(parse_size("0"), ())

    def test_characters_that_begin_no_token(self):
        for character in "()/,.:;=<>!?_@#$&|~^'\"`ABZ":
            self.check_position(parse, character, 0)
            self.check_position(parse, "array a n " + character, 10)
            self.check_position(parse, "array " + character + " n", 6)
            self.check_position(parse_size, "n" + character, 1)
            self.check_position(parse_size, "n + 2*n" + character + "n", 7)
            self.check_position(parse_block, "read a[i " + character + "]", 9)
            self.check_position(parse_block, "flush" + character, 5)

    def test_a_character_behind_a_run_does_not_join_it(self):
        self.check_position(parse, "array aB n", 7)
        self.check_position(parse, "array a_b n", 7)


class SyntaxTest(TextsCase):

    def test_values_that_are_no_texts(self):
        for reader in READERS:
            for value in NO_TEXTS:
                with self.assertRaises(InvalidText) as caught:
                    reader(value)
                self.assertIs(caught.exception.value, value)
                self.assertIsInstance(caught.exception, FarError)

    def test_each_keyword_as_a_name(self):
        for word in KEYWORDS:
            self.check_position(parse, f"array {word} n", 6)
            self.check_position(parse_block, f"for {word} n {{ }}", 4)
            self.check_position(parse_block, f"read {word}[0]", 5)
            self.check_position(parse_block, f"write {word}[0]", 6)
            if word != "n":
                self.check_position(parse_block, f"read a[{word}]", 7)
                self.check_position(parse_block, f"read a[2*{word}]", 9)

    def test_n_is_no_counter(self):
        self.assertEqual(parse_block("read a[n]"), (("read", "a", ((0, 1), ())),))
        self.assertEqual(parse_block("read a[2*n]"), (("read", "a", ((0, 2), ())),))

    def test_counters_stand_in_indexes_only(self):
        self.check_position(parse_size, "i", 0)
        self.check_position(parse_size, "n*i", 2)
        self.check_position(parse_size, "2*i", 2)
        self.check_position(parse, "array a n + i", 12)
        self.check_position(parse_block, "for i j { }", 6)

    def test_counters_stand_last(self):
        self.check_position(parse_block, "read a[i*n]", 8)
        self.check_position(parse_block, "read a[i*2]", 8)
        self.check_position(parse_block, "read a[i*j]", 8)
        self.check_position(parse_block, "read a[n*i*n]", 10)
        self.check_position(parse_block, "read a[i i]", 9)
        self.check_position(parse_block, "read a[2 i]", 9)

    def test_numbers_stand_first(self):
        self.check_position(parse_size, "n*2", 2)
        self.check_position(parse_size, "2*2", 2)
        self.check_position(parse_size, "2 2", 2)
        self.check_position(parse_size, "n 2", 2)
        self.check_position(parse_size, "2 n", 2)

    def test_signs_of_sums(self):
        self.check_position(parse_size, "+n", 0)
        self.check_position(parse_size, "--n", 1)
        self.check_position(parse_size, "n + -n", 4)
        self.check_position(parse_size, "n - - n", 4)
        self.check_position(parse_size, "n ++ n", 3)
        self.check_position(parse_size, "*n", 0)
        self.check_position(parse_size, "n**n", 2)
        self.check_position(parse_size, "-*n", 1)
        self.assertEqual(parse_size("-n - n"), (0, -2))
        self.check_position(parse_block, "read a[+i]", 7)
        self.check_position(parse_block, "read a[]", 7)

    def test_words_and_signs_where_they_cannot_stand(self):
        for text, position in [
                ("a", 0), ("5", 0), ("n", 0), ("{", 0), ("}", 0), ("[", 0), ("]", 0), ("*", 0),
                ("array array n", 6), ("array a", 7), ("array a for", 8), ("array a [", 8),
                ("array a n n", 10), ("array a n b", 10), ("array a n }", 10),
                ("flush array a n", 6), ("for i n { array a n }", 10), ("flush 5", 6),
                ("for 5 n { }", 4), ("for i { }", 6), ("for i n [ ]", 8), ("for i n flush", 8),
                ("for i n { } }", 12), ("for i n { ]", 10), ("read [0]", 5), ("read a{0}", 6),
                ("read a 0", 7), ("read a[0}", 8), ("read a[0", 8), ("read 0[a]", 5),
                ("read a[0]]", 9), ("read a[0][0]", 9), ("write", 5), ("write a[i +", 11)]:
            self.check_position(parse, text, position)

    def test_arrays_are_no_statements(self):
        self.check_position(parse_block, "array a n", 0)
        self.check_position(parse_size, "n array", 2)

    def test_texts_that_end_too_early(self):
        whole = "array a n for i n - 1 { read a[n*i + 3] }"
        complete = ["", "array a n", whole]
        for end in range(len(whole) + 1):
            text = whole[:end]
            if text.strip() in complete:
                self.assertIsNone(told(parse, text), text)
            elif text in ["a", "ar", "arr", "arra"] or text[10:] in ["f", "fo"]:
                self.check_position(parse, text, 0 if end < 5 else 10)
            elif text[24:] in ["r", "re", "rea"]:
                self.check_position(parse, text, 24)
            else:
                self.check_position(parse, text, end)
        for text in ["n +", "n*", "2*", "-", "n - ", "n * \n "]:
            self.check_position(parse_size, text, len(text))
        for text in ["for", "for i n {", "for i n { flush", "for i n { \n\n", "read a[i "]:
            self.check_position(parse_block, text, len(text))


class LimitsTest(TextsCase):

    def test_numbers_of_150_and_of_151_digits(self):
        self.assertEqual(parse_size(LONGEST), (int(LONGEST),))
        self.assertEqual(parse_size("-" + LONGEST + "*n"), (0, -int(LONGEST)))
        self.check_large(parse_size, TOO_LONG, "numbers")
        self.check_large(parse_size, "9" * 15000, "numbers")
        self.check_large(parse_size, "n - " + TOO_LONG, "numbers")
        self.check_large(parse, "array a " + TOO_LONG, "numbers")
        self.check_large(parse_block, "for i " + TOO_LONG + " { }", "numbers")
        self.check_large(parse_block, "read a[i + " + TOO_LONG + "*i]", "numbers")

    def test_sums_may_grow_beyond_the_limit(self):
        self.assertEqual(parse_size(LONGEST + " + 1"), (10 ** 150,))

    def test_long_numbers_where_no_number_may_stand(self):
        self.check_position(parse_size, "n*" + TOO_LONG, 2)
        self.check_position(parse_size, "n " + TOO_LONG, 2)
        self.check_position(parse, "array " + TOO_LONG, 6)
        self.check_position(parse, TOO_LONG, 0)
        self.check_position(parse_size, "0" + TOO_LONG, 0)
        self.check_position(parse_size, TOO_LONG + "a", 0)

    def test_parts_with_three_and_with_four_n(self):
        self.assertEqual(parse_size("n*n*n"), (0, 0, 0, 1))
        self.assertEqual(parse_size("2*n*n*n - n*n*n"), (0, 0, 0, 1))
        for text in ["n*n*n*n", "2*n*n*n*n", "0*n*n*n*n", "-n*n*n*n", "n*n*n*n*n",
                     "n*n*n*n - n*n*n*n", "1 + n*n*n*n", "n*n*n*n*n*n*n"]:
            self.check_large(parse_size, text, "degree")
            self.check_large(parse_block, f"read a[{text}]", "degree")
            self.check_large(parse_block, f"read a[{text}*i]", "degree")
            self.check_large(parse, "array a " + text, "degree")

    def test_the_degree_is_told_behind_its_part(self):
        self.check_position(parse_size, "n*n*n*n*", 8)
        self.check_position(parse_size, "n*n*n*n*2", 8)
        self.check_position(parse_size, "n*n*n*n*i", 8)
        self.check_position(parse_size, "n*n*n*n*" + TOO_LONG, 8)
        self.check_position(parse_block, "read a[n*n*n*n*]", 15)
        self.check_large(parse_size, "n*n*n*n#", "degree")
        self.check_large(parse_size, "n*n*n*n n", "degree")
        self.check_large(parse_size, "n*n*n*n + " + TOO_LONG, "degree")
        self.check_large(parse_block, "read a[n*n*n*n*i*n]", "degree")
        self.check_large(parse_block, "read a[n*n*n*n", "degree")

    def test_five_and_six_loops(self):
        self.assertIsNone(told(parse, loops(5, "flush")))
        self.assertIsNone(told(parse_block, loops(5) + loops(5)))
        for many in [6, 7, 30]:
            self.check_large(parse, loops(many), "nesting")
            self.check_large(parse_block, loops(many), "nesting")
        self.check_large(parse, "array a n " + loops(4, loops(1) + loops(2)), "nesting")

    def test_the_nesting_is_told_at_the_brace(self):
        five = "for i n { " * 5
        self.check_large(parse, five + "for i n {", "nesting")
        self.check_large(parse, five + "for i n { #", "nesting")
        self.check_position(parse, five + "for i n", 57)
        self.check_position(parse, five + "for i n #", 58)
        self.check_position(parse, five + "for {", 54)
        self.check_large(parse, five + "for i n*n*n*n {", "degree")
        self.check_large(parse, five + "for i " + TOO_LONG + " {", "numbers")

    def test_the_error_further_left_is_told(self):
        self.check_position(parse_size, "# + " + TOO_LONG, 0)
        self.check_large(parse_size, TOO_LONG + " #", "numbers")
        self.check_large(parse_size, TOO_LONG + " + n*n*n*n", "numbers")
        self.check_large(parse_size, TOO_LONG + "*n*n*n*n", "numbers")
        self.check_large(parse_size, "n*n*n*n + 01", "degree")
        self.check_position(parse_size, "01 + n*n*n*n", 0)
        self.check_position(parse, "array a n }" + loops(6), 10)
        self.check_large(parse, loops(6) + " }", "nesting")
        self.check_position(parse, "array n 5 array a " + TOO_LONG, 6)
        self.check_position(parse, "array a # array b (", 8)
        self.check_position(parse_block, "read a[i*i] read", 8)


if __name__ == "__main__":
    unittest.main()
