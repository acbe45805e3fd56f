"""Point 25, and the interface of farmisses/console.py."""

import inspect
import unittest

import nests
import oracle
from farmisses.best import best
from farmisses.caches import Cache
from farmisses.console import Console
from farmisses.costs import cost
from farmisses.errors import (DuplicateName, FarError, InvalidCache, InvalidCommand, InvalidEvent, InvalidNumber, InvalidQuestion,
                              InvalidSyntax, InvalidText, LimitExceeded, OutOfRange, TooLarge, Uneven, UnknownName)
from farmisses.orders import legal_orders
from farmisses.printing import show
from farmisses.programs import Program
from farmisses.questions import ask, rows_of
from farmisses.walks import count, length, lost

AT_FIRST = "n 0\nline 1 level 1 1 used back"


class ConsoleCase(unittest.TestCase):

    def setUp(self):
        self.desk = Console()

    def told(self, call, kind):
        with self.assertRaises(kind) as caught:
            call()
        self.assertIs(type(caught.exception), kind)
        fields = list(vars(caught.exception).values())
        self.assertEqual(len(fields), 1)
        return fields[0]

    def answers(self, *commands):
        return [self.desk.execute(command) for command in commands]

    def refuse(self, command, kind):
        """The field of the error of a command, behind which all is as it was."""
        before = self.answers("show", "counts")
        value = self.told(lambda: self.desk.execute(command), kind)
        self.assertEqual(self.answers("show", "counts"), before)
        return value


class CommandsTest(ConsoleCase):

    def test_at_first(self):
        self.assertEqual(self.answers("show", "counts", "cost", "orders", "best", "lost 0", "ask some any", "ask no any",
                                      "ask count any", "ask sum any", "ask every any then not any"),
                         [AT_FIRST, "-", "0", "-", "0", "-", "no", "yes", "0", "0", "yes"])
        self.assertEqual(self.refuse("back", InvalidEvent), ("back",))

    def test_a_session(self):
        self.assertEqual(self.answers("program array a n array b 9 for i n { write a[i] read b[0] }", "size 4", "show"),
                         ["ok", "other 12", "n 4\nline 1 level 1 1 used back\narray a n\narray b 9\nfor i n {\n  write a[i]\n"
                          "  read b[0]\n}"])
        self.assertEqual(self.answers("counts", "cost"),
                         ["miss 0 0 4\nmiss 0 1 4\nback 0 4\nthrown 0 0 1 3\nthrown 0 1 0 4", "12"])
        self.assertEqual(self.answers("cache line 2 level 2 1 used back", "size 4", "size 5", "back", "back", "back", "back"),
                         ["other 7", "same 7", "other 10", "other 7", "same 7", "other 12", "other 0"])
        self.assertEqual(self.refuse("back", InvalidEvent), ("back",))

    def test_edit(self):
        self.answers("program array a n*n for i n { read a[i] }", "size 3")
        self.assertEqual(self.answers("edit for i n { for j n { write a[n*i + j] } }", "cost", "orders", "best"),
                         ["other 17", "17", "i j\nj i", "17 i j"])
        self.assertEqual(self.answers("edit flush", "show", "counts", "orders", "best", "back", "back", "show"),
                         ["other 0", "n 3\nline 1 level 1 1 used back\narray a n*n\nflush", "-", "-", "0", "other 17", "other 3",
                          "n 3\nline 1 level 1 1 used back\narray a n*n\nfor i n {\n  read a[i]\n}"])

    def test_program_begins_a_session(self):
        self.answers("size 7", "cache line 4 level 2 2 tree back", "program array a n read a[3]")
        self.assertEqual(self.desk.execute("show"), "n 7\nline 4 level 2 2 tree back\narray a n\nread a[3]")
        self.assertEqual(self.refuse("back", InvalidEvent), ("back",))
        self.assertEqual(self.answers("program flush", "show"), ["ok", "n 7\nline 4 level 2 2 tree back\nflush"])

    def test_against_the_functions(self):
        random_ = oracle.generator(253)
        for _ in range(40):
            if random_.random() < 0.5:
                program = oracle.some_program(random_)
            else:
                program = nests.some_nest(random_, random_.choice([1, 2, 3]), bounds=("n", "2", "n - 1"), even=1)
            cache = oracle.some_cache(random_, 32)
            n = random_.choice([2, 3, 4])
            self.answers("program flush", f"size {n}", "program " + " ".join(show(program.tree()).split()))
            tally = count(program, cache, n)
            before = self.desk.execute("counts")
            word, paid = self.desk.execute("cache " + cache.show()).split()
            self.assertEqual((word == "same", int(paid)), (before == self.desk.execute("counts"), cost(cache, tally)))
            lines = show(program.tree()).splitlines()
            self.assertEqual(self.desk.execute("show").split("\n"), [f"n {n}", cache.show(), *lines])
            rows = [[part for part in (*row[:4], row[6]) if part is not None] for row in rows_of(program, cache, n)]
            self.assertEqual(self.desk.execute("counts"), "\n".join(" ".join(map(str, row)) for row in rows) or "-")
            self.assertEqual(self.desk.execute("cost"), str(cost(cache, tally)))
            self.check_orders(program, cache, n)
            for time in [0, 1, length(program, cache, n) // 2, length(program, cache, n)]:
                if time <= length(program, cache, n):
                    found = lost(program, cache, n, time)
                    self.assertEqual(self.desk.execute(f"lost {time}"), "\n".join(" ".join(map(str, one)) for one in found) or "-")
            for text in ["some kind back", "no level 1", "count kind hit or kind miss", "sum word write", "sum any",
                         "every kind thrown then level 0", "some array a and not word read"]:
                answer = ask(program, cache, n, text)
                self.assertEqual(self.desk.execute("ask " + text), {True: "yes", False: "no"}[answer] if
                                 isinstance(answer, bool) else str(answer))

    def check_orders(self, program, cache, n):
        try:
            orders = list(legal_orders(program, n))
        except Uneven as error:
            self.assertEqual(self.refuse("orders", Uneven), error.name)
            self.assertEqual(self.refuse("best", Uneven), error.name)
            return
        self.assertEqual(self.desk.execute("orders"), "\n".join(" ".join(order) or "-" for order in orders))
        least, (index, order) = best(program, cache, n)
        self.assertEqual((self.desk.execute("best"), index), (" ".join([str(least), *order]), 0))

    def test_great_numbers(self):
        self.answers(f"size {10 ** 60}", "program array a n for i n { write a[i] }")
        self.assertEqual(self.answers("cost", "ask sum kind miss", f"lost {10 ** 60}", f"lost {10 ** 59}"),
                         [str(2 * 10 ** 60 - 1), str(10 ** 60), f"0 a {10 ** 60 - 1}", f"0 a {10 ** 59 - 1}"])
        self.assertEqual(self.desk.execute("counts"), f"miss 0 0 {10 ** 60}\nback 0 {10 ** 60 - 1}\nthrown 0 0 0 {10 ** 60 - 1}")

    def test_no_newline_at_the_end(self):
        self.answers("program array a 4*n*n for i n { for j n { write a[n*i + j] } }", "size 4",
                     "cache line 1 level 2 2 used back level 2 2 used back")
        for command in ["show", "counts", "cost", "orders", "best", "lost 9", "ask some any", "size 5", "back",
                        "cache line 1 level 1 1 used back", "edit flush", "program flush", "show", "counts"]:
            answer = self.desk.execute(command)
            self.assertIsInstance(answer, str)
            self.assertEqual(answer, answer.strip())
            self.assertNotIn("", answer.split("\n"))
        self.assertEqual(self.answers("program array a 9 write a[0] write a[5]", "cache line 1 level 2 1 used back", "lost 2", "lost 1"),
                         ["ok", "other 2", "0 a 0\n0 a 5", "0 a 0"])

    def test_two_consoles(self):
        other = Console()
        self.desk.execute("size 5")
        self.assertEqual(other.execute("show"), AT_FIRST)


class ConsoleErrorsTest(ConsoleCase):

    def setUp(self):
        super().setUp()
        self.answers("program array a n for i n { read a[i] }", "size 4", "cache line 2 level 1 1 used back")

    def test_no_commands(self):
        for command in [None, True, 0, b"show", ["show"], ("show",), {}, "", " ", "  ", "show ", " show", "size  4", "ask some  any",
                        "show\n", "\nshow", "program\nflush", "edit flush\nflush", "ask some\nany", "program  ", "foo ", " foo", "\n"]:
            self.assertIs(self.refuse(command, InvalidCommand), None)

    def test_words(self):
        for command in ["foo", "foo bar", "Show", "show now", "counts 1", "cost 1", "orders all", "best 1", "back 1", "back back",
                        "size", "size 1 2", "lost", "lost 1 2", "program", "cache", "edit", "ask", "n 4", "line 1", "0", "-", "\t",
                        "execute show", "shows", "size 4 5 6", "begin", "flush", "ask?"]:
            self.assertEqual(self.refuse(command, InvalidCommand), command.split(" ")[0])

    def test_numbers(self):
        for word in ["x", "-1", "+1", "01", "00", "1x", "1.0", "1_0", "n", "1" + "0" * 150, "0" * 151, "-", "None", "\t4"]:
            for command in ["size", "lost"]:
                self.assertEqual(self.refuse(f"{command} {word}", InvalidText), word)
        great = 10 ** 150 - 1
        self.assertEqual(self.refuse(f"size {great}", InvalidNumber), great)
        self.assertEqual(self.refuse(f"lost {great}", InvalidNumber), great)
        self.assertEqual(self.refuse("lost 5", InvalidNumber), 5)
        self.assertEqual(self.refuse(f"size {10 ** 60 + 1}", InvalidNumber), 10 ** 60 + 1)
        self.assertEqual(self.desk.execute(f"size {10 ** 60}"), f"other {10 ** 60 // 2}")

    def test_errors_of_the_functions(self):
        for command, kind, field in [
                ("program array", InvalidSyntax, 5), ("program x", InvalidSyntax, 0), ("program array a n read b[0]", UnknownName, "b"),
                ("program array a n array a n", DuplicateName, "a"), ("program array a n read a[n]", OutOfRange, 0),
                ("program array a n*n*n*n", TooLarge, "degree"), ("program " + "array b 0 " * 8 + "array c 0", TooLarge, "arrays"),
                ("program " + "flush " * 40 + "flush", TooLarge, "statements"), ("edit }", InvalidSyntax, 0),
                ("edit array a n", InvalidSyntax, 0), ("edit for i n { read a[i] } read", InvalidSyntax, 26),
                ("edit read b[0]", UnknownName, "b"), ("edit for a n { }", DuplicateName, "a"), ("edit read a[4]", OutOfRange, 0),
                ("cache line 1", InvalidCache, ()), ("cache line 9 level 1 1 used back", InvalidCache, 9),
                ("cache 1 level 1 1 used back", InvalidSyntax, 0), ("cache line 1 level 1 1 used", InvalidSyntax, 21),
                ("cache line 1 level 1 3 tree back", InvalidCache, (1, 3, "tree", "back")),
                ("cache line 8 level 3 1 used back level 5 1 used back", TooLarge, "period"),
                ("ask any", InvalidQuestion, 0), ("ask some any or", InvalidQuestion, 11), ("ask some array z", UnknownName, "z"),
                ("ask some " + "not " * 31 + "any", TooLarge, "nesting"), ("ask some level 1" + "0" * 150, TooLarge, "numbers")]:
            self.assertEqual(self.refuse(command, kind), field, command)
        self.answers("program array a 9*n for i 3 { for j 3 { write a[i] read a[j] } }")
        self.assertEqual((self.refuse("orders", Uneven), self.refuse("best", Uneven)), ("a", "a"))
        self.answers("program array a 9*n for i n { read a[2*i] }", "size 1000000", "edit for i n { }")
        self.assertEqual(self.refuse("edit for i n { read a[i] read a[2*i] }", LimitExceeded), "steps")
        self.assertEqual(self.refuse("program array a 9*n for i n { read a[i] read a[2*i] }", LimitExceeded), "steps")
        self.assertEqual(self.desk.execute("back"), "other 1000000")

    def test_what_is_refused_is_not_in_the_session(self):
        for command in ["size 01", "size x", "edit read a[9]", "cache line 1", "foo", "program x", None]:
            with self.assertRaises(FarError):
                self.desk.execute(command)
        self.assertEqual(self.answers("back", "back"), ["other 4", "other 0"])
        self.assertEqual(self.refuse("back", InvalidEvent), ("back",))


class ConsoleInterfaceTest(unittest.TestCase):

    def test_example(self):
        desk = Console()
        lines = ["program array a n for i n { read a[i] }", "size 4", "cache line 4 level 1 1 used back", "counts",
                 "ask sum kind hit"]
        self.assertEqual([desk.execute(line) for line in lines], ["ok", "other 4", "other 1", "hit 0 0 3\nmiss 0 0 1", "3"])

    def test_interface(self):
        self.assertEqual(list(inspect.signature(Console).parameters), [])
        self.assertEqual(list(inspect.signature(vars(Console)["execute"]).parameters), ["self", "command"])
        self.assertEqual(Console.__module__, "farmisses.console")
        self.assertEqual(Console().execute(command="cost"), "0")
        self.assertEqual(Cache.read("line 1 level 1 1 used back").show(), AT_FIRST.split("\n")[1])
        self.assertEqual(Program(((), ())).tree(), ((), ()))


if __name__ == "__main__":
    unittest.main()
