"""Points 3 (i) and 25, and the interface of farmisses/questions.py."""

import inspect
import itertools
import re
import unittest

import oracle
from farmisses import questions
from farmisses.caches import Cache
from farmisses.errors import (InvalidNumber, InvalidQuestion, InvalidText, LimitExceeded, OutOfRange, TooLarge,
                              UnknownName)
from farmisses.programs import Program
from farmisses.questions import Condition, ask, read_condition, rows_of, selected, where
from farmisses.walks import count

KINDS = ["hit", "miss", "crowded", "back", "thrown"]
FIELDS = ["kind", "level", "access", "other", "array", "word"]
KEYWORDS = ["array", "for", "read", "write", "flush", "n"]
CACHE = Cache(2, ((2, 1, "used", "back"), (1, 2, "tree", "back")))
PROGRAM = Program.read("array a 2*n array kind 9 for i n { read a[i] write kind[0] write a[2*i] }")


class Reference:
    """A second reading of the grammar: a row of tokens, gone over with a stack instead of rules."""

    def __init__(self, text, is_question):
        self.tokens = [(found.group(), found.start()) for found in re.finditer(r"[a-z0-9]+|[^ \n]", text)]
        self.tokens.append(("", len(text)))
        self.is_question = is_question

    def told(self):
        """The error as (kind, field), or None."""
        words = ["some", "no", "count", "sum", "every"]
        at, stack, wants, thens = 0, [], "one", 0
        if self.is_question:
            word, place = self.tokens[0]
            if word not in words:
                return ("question", place)
            thens = word == "every"
            at = 1
        while True:
            word, place = self.tokens[at]
            at += 1
            if wants == "one":
                if len(stack) > 30:
                    return ("large", "nesting")
                if word in ("not", "("):
                    stack.append(word)
                elif word in FIELDS:
                    wants = word
                elif word == "any":
                    wants = "more"
                    self.pop_nots(stack)
                else:
                    return ("question", place)
            elif wants == "more":
                if word in ("and", "or"):
                    wants = "one"
                elif word == ")" and stack:
                    stack.pop()
                    self.pop_nots(stack)
                elif word == "then" and not stack and thens:
                    wants, thens = "one", 0
                elif word == "" and not stack and not thens:
                    return None
                else:
                    return ("question", place)
            else:
                is_number = word.isdigit() and (word == "0" or word[0] != "0")
                if wants in ("level", "access", "other") and is_number and len(word) > 150:
                    return ("large", "numbers")
                if not {"kind": word in KINDS, "word": word in ("read", "write"), "array":
                        re.fullmatch("[a-z][a-z0-9]*", word) and word not in KEYWORDS}.get(wants, is_number):
                    return ("question", place)
                wants = "more"
                self.pop_nots(stack)

    def pop_nots(self, stack):
        while stack and stack[-1] == "not":
            stack.pop()


def error_of(call):
    """The error of a call as (kind, field), or None."""
    try:
        call()
    except InvalidQuestion as error:
        return ("question", error.position)
    except TooLarge as error:
        return ("large", error.word)
    return None


class QuestionCase(unittest.TestCase):

    def told(self, call, kind):
        with self.assertRaises(kind) as caught:
            call()
        self.assertIs(type(caught.exception), kind)
        fields = list(vars(caught.exception).values())
        self.assertEqual(len(fields), 1)
        return fields[0]

    def shape(self, condition):
        """The parts of a condition, and those of what is in it."""
        self.assertIsInstance(condition, Condition)
        parts = condition.parts()
        self.assertIsInstance(parts, tuple)
        return tuple(self.shape(part) if isinstance(part, Condition) else part for part in parts)


class ConditionsTest(QuestionCase):

    def test_where(self):
        self.assertEqual(where().parts(), ("any",))
        for field, value in [("kind", "hit"), ("level", 0), ("access", 19), ("other", None), ("array", "zz"), ("word", "read"),
                             ("kind", "x"), ("level", "x"), ("array", None), ("other", -1), ("level", 10 ** 200)]:
            self.assertEqual(where(**{field: value}).parts(), (field, value))
        one = where(level=1, kind="hit", word="read")
        self.assertEqual(self.shape(one), ("and", ("and", ("level", 1), ("kind", "hit")), ("word", "read")))
        self.assertEqual(self.shape(where(word="read", level=1)), ("and", ("word", "read"), ("level", 1)))
        self.assertEqual(one, where(level=1) & where(kind="hit") & where(word="read"))

    def test_where_unknown(self):
        for call, word in [(lambda: where(number=1), "number"), (lambda: where(kind="hit", sum=3, z=1), "sum"),
                           (lambda: where(levels=0), "levels"), (lambda: where(n=0, kind=1), "n"),
                           (lambda: where(**{"any": 1}), "any"), (lambda: where(**{"not": 1, "and": 2}), "not"),
                           (lambda: where(**{"level ": 1}), "level "), (lambda: where(wanted=1), "wanted")]:
            self.assertEqual(self.told(call, UnknownName), word)

    def test_signs(self):
        one, other = where(level=0), where(kind="hit")
        self.assertEqual((one & other).parts(), ("and", one, other))
        self.assertEqual((one | other).parts(), ("or", one, other))
        self.assertEqual((~one).parts(), ("not", one))
        self.assertEqual(self.shape(~(one | other & one)),
                         ("not", ("or", ("level", 0), ("and", ("kind", "hit"), ("level", 0)))))
        self.assertEqual((one.parts(), other.parts()), (("level", 0), ("kind", "hit")))
        for call in [lambda: one & 1, lambda: one | None, lambda: 1 & one, lambda: one & ("any",)]:
            with self.assertRaises(TypeError):
                call()

    def test_equality(self):
        conditions = [where(), where(level=0), where(level=1), where(access=0), where(kind="hit"), where(array="hit"),
                      ~where(), ~where(level=0), where(level=0) & where(kind="hit"), where(kind="hit") & where(level=0),
                      where(level=0) | where(kind="hit"), ~~where(), where() & where(), where() | where(), where(other=None)]
        for at, one in enumerate(conditions):
            for place, other in enumerate(conditions):
                self.assertEqual(one == other, at == place)
                self.assertEqual(one != other, at != place)
            for value in [None, True, 0, "", one.parts(), [one], "any", lambda row: True]:
                self.assertFalse(one == value)
                self.assertTrue(one != value)
        self.assertEqual(where(level=0) & where(kind="hit"), where(level=0, kind="hit"))
        self.assertEqual(read_condition("not ( level 0 or any )"), ~(where(level=0) | where()))

    def test_calls(self):
        rows = [("hit", 0, 1, None, "a", "read", 5), ("back", 1, None, None, None, None, 2),
                ("thrown", 0, 1, 2, "kind", "write", 10 ** 60), ("miss", 1, 2, None, "a", "write", 1)]
        for condition, wanted in [
                (where(), [1, 1, 1, 1]), (where(kind="hit"), [1, 0, 0, 0]), (where(kind="x"), [0, 0, 0, 0]),
                (where(level=1), [0, 1, 0, 1]), (where(level=7), [0, 0, 0, 0]), (where(access=1), [1, 0, 1, 0]),
                (where(access=None), [0, 1, 0, 0]), (where(other=2), [0, 0, 1, 0]), (where(other=None), [1, 1, 0, 1]),
                (where(array="a"), [1, 0, 0, 1]), (where(array="kind"), [0, 0, 1, 0]), (where(array="zz"), [0, 0, 0, 0]),
                (where(word="write"), [0, 0, 1, 1]), (where(word=None), [0, 1, 0, 0]), (where(word="hit"), [0, 0, 0, 0]),
                (~where(kind="hit"), [0, 1, 1, 1]), (~where(), [0, 0, 0, 0]), (where(level=1, array="a"), [0, 0, 0, 1]),
                (where(kind="hit") | where(kind="back"), [1, 1, 0, 0]), (~(where(level=0) & where(array="a")), [0, 1, 1, 1]),
                (~where(level=0) | where(other=2), [0, 1, 1, 1]), (where(level="0"), [0, 0, 0, 0])]:
            self.assertEqual([condition(row) for row in rows], [bool(number) for number in wanted], self.shape(condition))
            self.assertTrue(all(isinstance(condition(row), bool) for row in rows))


class ReadTest(QuestionCase):

    def test_from_the_left(self):
        a, b, c, d = [("level", number) for number in range(4)]
        for text, wanted in [("any", ("any",)), ("level 0", a), ("not level 0", ("not", a)), ("(level 0)", a),
                             ("((level 0))", a), ("level 0 and level 1 and level 2", ("and", ("and", a, b), c)),
                             ("level 0 or level 1 or level 2", ("or", ("or", a, b), c)),
                             ("level 0 or level 1 and level 2", ("or", a, ("and", b, c))),
                             ("level 0 and level 1 or level 2", ("or", ("and", a, b), c)),
                             ("level 0 and level 1 or level 2 and level 3", ("or", ("and", a, b), ("and", c, d))),
                             ("level 0 or level 1 and level 2 or level 3", ("or", ("or", a, ("and", b, c)), d)),
                             ("level 0 and (level 1 and level 2)", ("and", a, ("and", b, c))),
                             ("(level 0 or level 1) and level 2", ("and", ("or", a, b), c)),
                             ("not level 0 and level 1", ("and", ("not", a), b)),
                             ("not (level 0 and level 1)", ("not", ("and", a, b))),
                             ("not not level 0 or level 1", ("or", ("not", ("not", a)), b)),
                             ("level 0 and not level 1 or not (not level 2)", ("or", ("and", a, ("not", b)), ("not", ("not", c))))]:
            for bent in [text, text.replace(" ", "\n  "), f"  {text}\n\n", text.replace("(", "( ").replace(")", " )")]:
                self.assertEqual(self.shape(read_condition(bent)), wanted)

    def test_fields(self):
        for kind in KINDS:
            self.assertEqual(read_condition(f"kind {kind}").parts(), ("kind", kind))
        for word in ["read", "write"]:
            self.assertEqual(read_condition(f"word {word}").parts(), ("word", word))
        for field in ["level", "access", "other"]:
            for number in [0, 5, 19, 10 ** 150 - 1]:
                self.assertEqual(read_condition(f"{field} {number}").parts(), (field, number))
            self.assertEqual(self.told(lambda: read_condition(f"{field} 1{'0' * 150}"), TooLarge), "numbers")
            self.assertEqual(self.told(lambda: read_condition(f"{field} 0{'0' * 150}"), InvalidQuestion), len(field) + 1)
            for wrong in ["", "x", "any", "01", "-1", "+1", "( 1 )", "1x", "1 1"]:
                position = len(field) + 3 if wrong == "1 1" else len(field) + 1
                self.assertEqual(self.told(lambda: read_condition(f"{field} {wrong}"), InvalidQuestion), position)
        for name in ["a", "zz9", "kind", "level", "any", "not", "and", "or", "then", "some", "every", "word", "other", "hit"]:
            self.assertEqual(read_condition(f"array {name}").parts(), ("array", name))
        for name in KEYWORDS + ["", "9", "9a", "A", "_b", "(", "-a"]:
            self.assertEqual(self.told(lambda: read_condition(f"array {name}"), InvalidQuestion), 6)
        for field, wrongs in [("kind", ["", "hits", "read", "0", "kind", "any"]), ("word", ["", "hit", "flush", "0", "word"])]:
            for wrong in wrongs:
                self.assertEqual(self.told(lambda: read_condition(f"{field} {wrong}"), InvalidQuestion), 5)

    def test_not_texts(self):
        for value in [None, True, 0, b"any", ["any"], ("any",), {}, where()]:
            self.assertIs(self.told(lambda: read_condition(value), InvalidText), value)
            self.assertIs(self.told(lambda: ask(PROGRAM, CACHE, None, value), InvalidText), value)

    def test_depth(self):
        for deep, more in itertools.product([0, 1, 15, 29, 30, 31, 32, 40], [0, 1]):
            for text in ["not " * deep + "any", "(" * deep + "any" + ")" * deep,
                         "any or " + "not ( " * (deep // 2) + "not " * (deep % 2) + "any" + ")" * (deep // 2),
                         "( any and " * deep + "level 0" + ")" * deep + " and not any" * more]:
                if deep <= 30:
                    read_condition(text)
                else:
                    self.assertEqual(self.told(lambda: read_condition(text), TooLarge), "nesting")
                    self.assertEqual(self.told(lambda: ask(PROGRAM, CACHE, None, "every any then " + text), TooLarge), "nesting")
        # What stands further left is told first.
        self.assertEqual(self.told(lambda: read_condition("any any " + "not " * 31 + "any"), InvalidQuestion), 4)
        self.assertEqual(self.told(lambda: read_condition("level 1" + "0" * 150 + " or " + "not " * 31), TooLarge), "numbers")
        self.assertEqual(self.told(lambda: read_condition("not " * 31 + "level 1" + "0" * 150), TooLarge), "nesting")
        self.assertEqual(self.told(lambda: read_condition("not " * 31 + "x"), TooLarge), "nesting")
        self.assertEqual(self.told(lambda: read_condition("not " * 30 + "x"), InvalidQuestion), 120)
        self.assertEqual(len(self.flat(read_condition("not " * 30 + "any"))), 31)

    def flat(self, condition):
        return [condition] + [one for part in condition.parts() if isinstance(part, Condition) for one in self.flat(part)]

    def test_against_a_second_reading(self):
        random_ = oracle.generator(250)
        words = ["any", "not", "(", ")", "and", "or", "kind hit", "kind", "level 0", "level", "access 1", "other 2", "array a",
                 "array", "array n", "word read", "word", "then", "some", "x", "0", "-", "{", "1a", "array then", "!", "A"]
        tells = {}
        for _ in range(4000):
            tokens = [random_.choice(words[:6] + words[:19] + words) for _ in range(random_.randint(0, 7))]
            text = random_.choice([" ", "\n", "  "]).join(tokens)
            told = error_of(lambda: read_condition(text))
            self.assertEqual(told, Reference(text, False).told(), text)
            tells[told and told[0]] = tells.get(told and told[0], 0) + 1
            text = random_.choice(["some", "no", "count", "sum", "every", "every", "every", ""]) + " " + text
            told = error_of(lambda: self.ask(text))
            self.assertEqual(told, Reference(text, True).told(), text)
        self.assertGreater(tells[None], 150)

    def ask(self, text):
        try:
            ask(PROGRAM, CACHE, None, text)
        except (UnknownName, InvalidNumber):
            pass

    def test_bent_texts(self):
        whole = "not (kind hit or level 0 and word write) and array kind or access 12"
        for at in range(len(whole) + 1):
            for bent in [whole[:at], whole[:at] + whole[at + 1:], whole[:at] + " " + whole[at:], whole[:at] + "(" + whole[at:],
                         whole[:at] + "?" + whole[at:], whole[:at] + "n" + whole[at:], whole[:at] + "0" + whole[at:]]:
                self.assertEqual(error_of(lambda: read_condition(bent)), Reference(bent, False).told(), bent)


class RowsTest(QuestionCase):

    def rows(self, program, tally):
        rows = []
        for key, number in tally.items():
            access = key[2] if len(key) > 2 else None
            word, array = program.accesses[access][:2] if access is not None else (None, None)
            rows.append((*key, *(None,) * (4 - len(key)), array, word, number))
        return sorted(rows, key=lambda row: (KINDS.index(row[0]), [number for number in row[1:4] if number is not None]))

    def test_rows(self):
        random_ = oracle.generator(251)
        for _ in range(40):
            program = oracle.some_program(random_, loops=2)
            cache = oracle.some_cache(random_, 32)
            tally = oracle.tally(program, cache, 4)
            rows = rows_of(program, cache, 4)
            self.assertEqual(rows, self.rows(program, tally))
            self.assertIsInstance(rows, list)
            for condition in [where(), where(level=0), ~where(kind="hit"), where(word="write") | where(array="b")]:
                self.assertEqual(list(selected(program, cache, 4, condition)), [row for row in rows if condition(row)])
            self.assertEqual(list(selected(program, cache, 4, lambda row: row[6] > 3)), [row for row in rows if row[6] > 3])
            self.assertEqual(list(selected(program, cache, 4, lambda row: row[2])), [row for row in rows if row[2]])
            rows.clear()
            self.assertEqual(rows_of(program, cache, 4), self.rows(program, tally))

    def test_in_their_order(self):
        rows = rows_of(PROGRAM, CACHE, 20)
        self.assertEqual(rows, self.rows(PROGRAM, count(PROGRAM, CACHE, 20)))
        self.assertEqual([row[0] for row in rows], sorted([row[0] for row in rows], key=KINDS.index))
        self.assertEqual({row[0] for row in rows}, set(KINDS))
        self.assertEqual(rows_of(Program.read("flush"), CACHE, 20), [])
        self.assertEqual(list(selected(Program.read("flush"), CACHE, 20, where())), [])
        many = Program.read("array a 99 " + "read a[0] " * 12)
        self.assertEqual([row[2] for row in rows_of(many, CACHE, 0) if row[:2] == ("hit", 0)], list(range(1, 12)))

    def test_great_numbers(self):
        rows = rows_of(Program.read("array a n for i n { read a[i] }"), Cache(1, ((1, 1, "used", "back"),)), 10 ** 60)
        self.assertEqual(rows, [("miss", 0, 0, None, "a", "read", 10 ** 60), ("thrown", 0, 0, 0, "a", "read", 10 ** 60 - 1)])

    def test_errors(self):
        short = Program.read("array a 9 for i n { write a[2*i] }")
        slow = Program.read("array a 4*n for i n { read a[i] read a[2*i] }")
        for call in [lambda program, n: rows_of(program, CACHE, n), lambda program, n: list(selected(program, CACHE, n, where())),
                     lambda program, n: ask(program, CACHE, n, "some any")]:
            for n in [None, True, -1, 10 ** 60 + 1]:
                self.assertIs(self.told(lambda: call(short, n), InvalidNumber), n)
            self.assertEqual(self.told(lambda: call(short, 6), OutOfRange), 0)
            self.assertEqual(self.told(lambda: call(slow, 10 ** 6), LimitExceeded), "steps")


class AskTest(QuestionCase):

    def test_answers(self):
        random_ = oracle.generator(252)
        ones = ["any", "kind hit", "kind back", "kind thrown", "level 0", "level 1", "level 9", "access 1", "other 0", "array a",
                "array kind", "word read", "word write", "not any"]
        seen = set()
        for _ in range(150):
            n = random_.choice([0, 1, 7, 20])
            rows = rows_of(PROGRAM, CACHE, n)
            one, other = [f"{random_.choice(['', 'not '])}{random_.choice(ones)} {random_.choice(['and', 'or'])} "
                          f"{random_.choice(ones)}" for _ in range(2)]
            found = [row for row in rows if read_condition(one)(row)]
            for text, wanted in [(f"some {one}", bool(found)), (f"no {one}", not found), (f"count {one}", len(found)),
                                 (f"sum {one}", sum(row[6] for row in found)),
                                 (f"every {one} then {other}", all(read_condition(other)(row) for row in found))]:
                answer = ask(PROGRAM, CACHE, n, text)
                self.assertEqual(answer, wanted, text)
                self.assertIs(type(answer), type(wanted), text)
                seen.add((text.split()[0], bool(wanted)))
        self.assertEqual(len(seen), 10)

    def test_names_that_are_words(self):
        self.assertIs(ask(PROGRAM, CACHE, 5, "some array kind and kind miss"), True)
        self.assertIs(ask(PROGRAM, CACHE, 5, "every array kind then word write"), True)
        then = Program.read("array then 9 array and 9 read then[0] read and[0]")
        self.assertIs(ask(then, CACHE, 0, "every array then then array then"), True)
        self.assertEqual(ask(then, CACHE, 0, "count array and and array and"), 2)
        self.assertIs(ask(then, CACHE, 0, "no array then and array and"), True)

    def test_great_sums(self):
        program = Program.read("array a n for i n { read a[i] }")
        cache = Cache(1, ((1, 1, "used", "back"),))
        self.assertEqual(ask(program, cache, 10 ** 60, "sum any"), 2 * 10 ** 60 - 1)
        self.assertEqual(ask(program, cache, 10 ** 60, "sum not any"), 0)

    def test_errors_in_their_order(self):
        short = Program.read("array a 9 for i n { write a[2*i] }")
        for text, position in [("", 0), ("any", 0), ("all any", 0), ("some", 4), ("some ", 5), ("every any", 9),
                               ("every any then", 14), ("every any any", 10), ("some any then any", 9), ("some any any", 9),
                               ("every any then any then any", 19), ("some array z or", 15), ("some (array z", 13)]:
            for n in [None, 6, 3]:
                self.assertEqual(self.told(lambda: ask(short, CACHE, n, text), InvalidQuestion), position)
        for text, name in [("some array z", "z"), ("no array a and (array y or array x)", "y"), ("every not array b then array c", "b"),
                           ("every any or array a then not (any and array c)", "c"), ("count not (array kind)", "kind"),
                           ("sum array then or array z", "then")]:
            for n in [None, 6, 3]:
                self.assertEqual(self.told(lambda: ask(short, CACHE, n, text), UnknownName), name)
        self.assertIs(self.told(lambda: ask(short, CACHE, None, "some array a"), InvalidNumber), None)
        self.assertEqual(self.told(lambda: ask(short, CACHE, 6, "some array a"), OutOfRange), 0)
        # The names of arrays are no matter for conditions.
        self.assertEqual(read_condition("array z").parts(), ("array", "z"))
        self.assertEqual(list(selected(short, CACHE, 3, read_condition("array z"))), [])


class QuestionsInterfaceTest(unittest.TestCase):

    def test_interface(self):
        for name in ["parts", "__call__", "__and__", "__or__", "__invert__", "__eq__"]:
            self.assertIn(name, vars(Condition))
        self.assertEqual(list(inspect.signature(vars(Condition)["__call__"]).parameters), ["self", "row"])
        for name, parameters in [("where", ["wanted"]), ("read_condition", ["text"]), ("rows_of", ["program", "cache", "n"]),
                                 ("selected", ["program", "cache", "n", "condition"]), ("ask", ["program", "cache", "n", "text"])]:
            function = getattr(questions, name)
            self.assertEqual(list(inspect.signature(function).parameters), parameters)
            self.assertEqual(function.__module__, "farmisses.questions")
        self.assertEqual(inspect.signature(where).parameters["wanted"].kind, inspect.Parameter.VAR_KEYWORD)
        self.assertTrue(inspect.isgeneratorfunction(selected))


if __name__ == "__main__":
    unittest.main()
