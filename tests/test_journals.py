"""Points 3 (k) and 23, and the interface of farmisses/journals.py."""

import inspect
import unittest

import oracle
from farmisses import journals
from farmisses.caches import Cache
from farmisses.errors import (FarError, InvalidEvent, InvalidNumber, InvalidText, LimitExceeded, OutOfRange)
from farmisses.journals import appended, event_text, journal_text, read_event, recovered, recovered_session
from farmisses.printing import show
from farmisses.programs import Program
from farmisses.sessions import Session
from farmisses.texts import parse_block

ROW = " {}[]+-*0123456789abcdefghijklmnopqrstuvwxyz"
ALL = "\n" + "".join(chr(number) for number in range(32, 127))
SWEEP = Program.read("array a n for i n { read a[i] }")
ONE = Cache(2, ((1, 1, "used", "back"),))
LEVEL = (1, 1, "used", "back")
BACK = ("back",)
EVENTS = [BACK, ("size", 0), ("size", 7), ("size", 10 ** 60 + 1), ("size", 10 ** 150 - 1), ("cache", 1, (LEVEL,)),
          ("cache", 8, ((2, 4, "tree", "through"), (1, 3, "second", "back"), (8, 2, "brought", "back"))),
          ("edit", ()), ("edit", (("flush",),)), ("edit", (("for", "i", (0, 1), (("flush",),)),)),
          ("edit", parse_block("for i 2*n*n - 1 { for j 4 { read a[n*i - 3*j + 5] write zz9[-j] } flush } read b[0]")),
          ("edit", parse_block("for a 0 { for b 0 { for c 0 { for d 0 { for e 0 { } } } } }")),
          ("edit", (("for", "i", (10 ** 150 - 1, 0, 0, -1), ()),) * 41)]
NO_EVENTS = [None, True, 0, "", "back", [], ["back"], {}, (), (None,), ("Back",), ("back", 1), ("edit",), ("edit", (), ()),
             ("size",), ("size", 1, 2), ("cache",), ("cache", 1), ("cache", 1, (LEVEL,), 1), (b"back",), (("back",),)]
NO_TEXTS = [("size", None), ("size", True), ("size", -1), ("size", 10 ** 150), ("size", "7"), ("size", (7,)),
            ("cache", 0, (LEVEL,)), ("cache", 9, (LEVEL,)), ("cache", True, (LEVEL,)), ("cache", 1, ()),
            ("cache", 1, (LEVEL,) * 4), ("cache", 1, [LEVEL]), ("cache", 1, (list(LEVEL),)), ("cache", 1, LEVEL),
            ("cache", 8, ((3, 1, "used", "back"), (5, 1, "used", "back"))), ("cache", 1, ((1, 3, "tree", "back"),)),
            ("cache", "1", (LEVEL,)), ("cache", 1, ((True, 1, "used", "back"),)), ("cache", None, None),
            ("edit", None), ("edit", []), ("edit", "flush"), ("edit", [("flush",)]), ("edit", ("flush",)),
            ("edit", (("flush", 1),)), ("edit", (("for", "i", (0, True), ()),)), ("edit", (("for", "i", (0,), ()),)),
            ("edit", (("for", "n", (1,), ()),)), ("edit", (("for", "i", (1, 1, 1, 1, 1), ()),)),
            ("edit", (("for", "i", (10 ** 150,), ()),)), ("edit", (("read", "a", ((), (("i", ()),))),)),
            ("edit", (("read", "a", ((), (("j", (1,)), ("i", (1,))))),)), ("edit", (("read", "a", [(), ()]),)),
            ("edit", (("for", "a", (), (("for", "b", (), (("for", "c", (), (("for", "d", (), (("for", "e", (), (
                ("for", "f", (), (("for", "g", (), ()),)),)),)),)),)),)),))]
BAD_TEXTS = ["", " ", "bac", "backx", "back ", " back", "back back", "back\n", "BACK", "size", "size ", "size 07", "size 00",
             "size -1", "size 7 ", "size  7", " size 7", "size 7 7", "size 1" + "0" * 150, "size x", "size 7x", "size n", "7",
             "size 7\n", "edits", "edit ", "edit  flush", "edit flush ", "edit flush flush\n", "edit\nflush", "edit\n",
             "editflush", "edit read a[i ]", "edit read a[ i]", "edit read a [i]", "edit read a[i+1]", "edit read a[1 + i]",
             "edit read a[i + i]", "edit read a[01]", "edit for i n {}", "edit for i n {  }", "edit for i n { flush", "edit }",
             "edit for i n*1 { }", "edit for i 1*n { }", "edit for i 3 + n { }", "edit for i n - n { }", "edit for i -0 { }",
             "edit for i 1" + "0" * 150 + " { }", "edit for i n*n*n*n { }", "edit array a n", "edit read a[i", "edit for n 1 { }",
             "line", "line 1", "line 1 ", "line 0 level 1 1 used back", "line 9 level 1 1 used back", "line 1 level 1 1 used",
             "line 1  level 1 1 used back", "line 1 level 1 1 used back ", "line 01 level 1 1 used back",
             "line 1 level 1 1 back used", "line 1 level 1 3 tree back", "line 1 level 0 1 used back", "cache 1",
             "cache line 1 level 1 1 used back", "line 8 level 3 1 used back level 5 1 used back",
             "line 1 level 1 1 used back" + " level 1 1 used back" * 3, "program", "0 4 237 back"]


def check(text):
    return sum((at + 1) * (ROW.index(character) + 1) for at, character in enumerate(text)) % 999983


def line(index, text):
    return f"{index} {len(text)} {check(text)} {text}\n"


class JournalCase(unittest.TestCase):

    def told(self, call, kind):
        with self.assertRaises(kind) as caught:
            call()
        self.assertIs(type(caught.exception), kind)
        fields = list(vars(caught.exception).values())
        self.assertEqual(len(fields), 1)
        return fields[0]


class TextsTest(JournalCase):

    def test_texts(self):
        for event, text in [(BACK, "back"), (("size", 0), "size 0"), (("size", 10 ** 150 - 1), "size " + "9" * 150),
                            (("cache", 2, (LEVEL, (3, 4, "tree", "through"))), "line 2 level 1 1 used back level 3 4 tree through"),
                            (("edit", ()), "edit"), (("edit", (("flush",),) * 2), "edit flush flush"),
                            (("edit", parse_block("for i 3+n{for j 1 {} read a[2*i - n*i]}")),
                             "edit for i n + 3 { for j 1 { } read a[-n*i + 2*i] }")]:
            self.assertEqual(event_text(event), text)
            self.assertEqual(read_event(text), event)

    def test_read_back(self):
        for event in EVENTS:
            text = event_text(event)
            self.assertEqual(read_event(text), event)
            self.assertTrue(set(text) <= set(ROW), text)
            if event[0] == "edit":
                self.assertEqual(text.split(), ["edit"] + show(((), event[1])).split())
        random_ = oracle.generator(230)
        for _ in range(60):
            program = oracle.some_program(random_, loops=3)
            cache = oracle.some_cache(random_)
            for event in [("edit", program.body), ("cache", cache.line, cache.levels)]:
                self.assertEqual(read_event(event_text(event)), event)
            self.assertEqual(event_text(("cache", cache.line, cache.levels)), cache.show())

    def test_events_without_a_text(self):
        for event in NO_EVENTS + NO_TEXTS:
            self.assertIs(self.told(lambda: event_text(event), InvalidEvent), event)
            self.assertIs(self.told(lambda: journal_text([BACK, event, None]), InvalidEvent), event)
            self.assertIs(self.told(lambda: appended("", event), InvalidEvent), event)
        # Five loops inside one another can be read, six cannot.
        block = ()
        for depth in range(6):
            block = (("for", f"i{depth}", (1,), block),)
            if depth < 5:
                self.assertEqual(read_event(event_text(("edit", block))), ("edit", block))
        self.assertEqual(self.told(lambda: event_text(("edit", block)), InvalidEvent), ("edit", block))

    def test_texts_that_are_none(self):
        for text in [None, True, 0, b"back", ["back"], ("back",), {}, *BAD_TEXTS]:
            self.assertIs(self.told(lambda: read_event(text), InvalidText), text)

    def test_bent_texts(self):
        for event in EVENTS[:7] + EVENTS[8:11]:
            text = event_text(event)
            words = text.split(" ")
            bent = [text + " ", " " + text, text + "\n", text.replace(" ", "  ", 1), text.replace(" ", "\n", 1),
                    text.upper(), text + text, text + " " + text]
            for at in range(len(words)):
                bent.append(" ".join(words[:at] + words[at + 1:]))
                bent.append(" ".join(words[:at + 1] + words[at:]))
                bent.append(" ".join(words[:at] + ["z"] + words[at + 1:]))
                bent.append(" ".join(words[at:] + words[:at]))
                bent.append(" ".join(words[:at] + words[at:at + 2][::-1] + words[at + 2:]))
            for other in bent:
                if other == text:
                    continue
                try:
                    found = read_event(other)
                except InvalidText as error:
                    self.assertEqual(error.value, other)
                    continue
                # It is the text of another event.
                self.assertNotEqual(found, event)
                self.assertEqual(event_text(found), other)

    def test_journals(self):
        self.assertEqual(journal_text([]), "")
        wanted = "".join(line(index, event_text(event)) for index, event in enumerate(EVENTS))
        self.assertEqual(journal_text(EVENTS), wanted)
        text = ""
        for event in EVENTS:
            text = appended(text, event)
        self.assertEqual(text, wanted)
        self.assertEqual(recovered(text), EVENTS)
        long = journal_text([BACK, ("size", 5)] * 60)
        self.assertEqual(recovered(long), [BACK, ("size", 5)] * 60)
        self.assertTrue(long.endswith("\n118 4 237 back\n" + line(119, "size 5")))

    def test_appended_to_any_text(self):
        for text, wanted in [("x", "x0 4 237 back\n"), ("\n\n", "\n\n2 4 237 back\n"), ("a\nb", "a\nb1 4 237 back\n"),
                             ("0 4 237 bac", "0 4 237 bac0 4 237 back\n"), ("0 4 237 back\n", "0 4 237 back\n1 4 237 back\n")]:
            self.assertEqual(appended(text, BACK), wanted)
        for text in [None, True, 0, b"", [], ("",)]:
            self.assertIs(self.told(lambda: appended(text, None), InvalidText), text)
            self.assertIs(self.told(lambda: appended(text, BACK), InvalidText), text)

    def test_the_check(self):
        for text in ["size 1234567890", "edit read a[i + 2*n - 3] for i n { }"]:
            self.assertEqual(journal_text([read_event(text)]), line(0, text))
        block = parse_block("for i 123456789*n*n*n - 987654321 { read a[12345*i] } " * 40)
        text = event_text(("edit", block))
        self.assertGreater(sum((at + 1) * 20 for at in range(len(text))), 999983)
        self.assertEqual(journal_text([("edit", block)]), line(0, text))
        self.assertEqual(recovered(line(0, text)), [("edit", block)])


class RecoveredTest(JournalCase):

    JOURNAL = [("size", 6), ("cache", 2, ((2, 1, "used", "back"),)), BACK, ("edit", parse_block("for i n { write a[i] }"))]

    def test_cut_off_anywhere(self):
        text = journal_text(self.JOURNAL)
        for at in range(len(text) + 1):
            whole = text[:at].count("\n")
            self.assertEqual(recovered(text[:at]), self.JOURNAL[:whole])
            session = recovered_session(SWEEP, ONE, 4, text[:at])
            self.assertEqual(session.journal(), self.JOURNAL[:whole])

    def test_one_sign_replaced(self):
        text = journal_text(self.JOURNAL)
        for at, sign in enumerate(text):
            whole = text[:at].count("\n")
            for other in ALL:
                if other != sign:
                    self.assertEqual(recovered(text[:at] + other + text[at + 1:]), self.JOURNAL[:whole], (at, other))

    def test_other_faults(self):
        text = journal_text(self.JOURNAL)
        lines = text.splitlines(keepends=True)
        for at in range(len(lines)):
            for bent in [lines[:at] + lines[at + 1:], lines[:at] + ["\n"] + lines[at:], lines[:at] + ["x"] + lines[at:],
                         lines[:at] + [" " + lines[at]] + lines[at + 1:], lines[:at] + ["0" + lines[at]] + lines[at + 1:],
                         lines[:at] + [lines[at][:-1] + " \n"] + lines[at + 1:], lines[:at] + lines[:1] * (at > 0) + ["y\n"]]:
                self.assertEqual(recovered("".join(bent)), self.JOURNAL[:at])
            doubled = lines[:at + 1] + lines[at:]
            self.assertEqual(recovered("".join(doubled)), self.JOURNAL[:at + 1])
            turned = lines[:at] + lines[at:][::-1]
            self.assertEqual(recovered("".join(turned)), self.JOURNAL if at == len(lines) - 1 else self.JOURNAL[:at])
        # Lines whose number, length and check are right, but not what they tell.
        for wrong in ["size 07", "backs", "edit  flush", "line 9 level 1 1 used back", "", "size " + "1" * 151]:
            self.assertEqual(recovered(line(0, "back") + line(1, wrong) + line(2, "back")), [BACK])
        self.assertEqual(recovered(line(0, "back") + "1 4 237  back\n"), [BACK])
        self.assertEqual(recovered(line(0, "back") + "01 4 237 back\n"), [BACK])
        self.assertEqual(recovered(line(0, "back") + line(2, "back")), [BACK])
        self.assertEqual(recovered(line(1, "back")), [])
        self.assertEqual(recovered(""), [])
        self.assertEqual(recovered("\n"), [])

    def test_the_list_is_new(self):
        text = journal_text(self.JOURNAL)
        recovered(text).append(None)
        self.assertEqual(recovered(text), self.JOURNAL)

    def test_events_that_are_refused(self):
        for refused in [("size", 10 ** 60 + 1), ("edit", parse_block("read b[0]")), ("edit", parse_block("read a[n]")),
                        ("edit", parse_block("for a n { }")), ("edit", (("flush",),) * 41)]:
            text = journal_text([("size", 6), refused, ("size", 8)])
            self.assertEqual(len(recovered(text)), 3)
            session = recovered_session(SWEEP, ONE, 4, text)
            self.assertIsInstance(session, Session)
            self.assertEqual((session.n, session.journal()), (6, [("size", 6)]))
        session = recovered_session(SWEEP, ONE, 4, journal_text([BACK, ("size", 8)]))
        self.assertEqual((session.n, session.journal()), (4, []))
        session = recovered_session(SWEEP, ONE, 4, journal_text([("size", 8), BACK, BACK, ("size", 9)]))
        self.assertEqual((session.n, session.journal()), (4, [("size", 8), BACK]))
        # Also where counting takes too many steps.
        program = Program.read("array a 9*n for i n { }")
        slow = ("edit", parse_block("for i n { read a[i] read a[2*i] }"))
        with self.assertRaises(LimitExceeded):
            Session(program, ONE, 10 ** 6).perform(slow)
        session = recovered_session(program, ONE, 10 ** 6, journal_text([("size", 10 ** 6), slow, ("size", 3)]))
        self.assertEqual(session.journal(), [("size", 10 ** 6)])

    def test_events_replayed(self):
        random_ = oracle.generator(231)
        choices = [BACK, ("size", 9), ("size", 2), ("cache", 1, ((1, 2, "tree", "back"),)), ("edit", ()),
                   ("edit", parse_block("for i n { write a[i] }"))]
        for _ in range(20):
            session = Session(SWEEP, ONE, 4)
            for _ in range(12):
                try:
                    session.perform(random_.choice(choices))
                except FarError:
                    pass
            again = recovered_session(SWEEP, ONE, 4, journal_text(session.journal()))
            self.assertEqual((again.program, again.cache, again.n, again.tallied(), again.journal()),
                             (session.program, session.cache, session.n, session.tallied(), session.journal()))

    def test_errors_in_their_order(self):
        short = Program.read("array a 9 for i n { write a[2*i] }")
        for text in [None, True, 0, b"", [], ("",)]:
            self.assertIs(self.told(lambda: recovered(text), InvalidText), text)
            self.assertIs(self.told(lambda: recovered_session(short, ONE, None, text), InvalidText), text)
        for text in ["", "x", journal_text(self.JOURNAL)]:
            for n in [None, True, -1, 10 ** 60 + 1]:
                self.assertIs(self.told(lambda: recovered_session(short, ONE, n, text), InvalidNumber), n)
            self.assertEqual(self.told(lambda: recovered_session(short, ONE, 6, text), OutOfRange), 0)


class JournalsInterfaceTest(unittest.TestCase):

    def test_example(self):
        edit = ("edit", (("for", "i", (0, 1), (("flush",),)),))
        self.assertEqual([event_text(edit), journal_text([("back",), ("size", 7)]), recovered("0 4 237 back\n1 4 237 bac")],
                         ["edit for i n { flush }", "0 4 237 back\n1 6 416 size 7\n", [("back",)]])

    def test_parameters(self):
        for name, parameters in [("event_text", ["event"]), ("read_event", ["text"]), ("journal_text", ["events"]),
                                 ("appended", ["text", "event"]), ("recovered", ["text"]),
                                 ("recovered_session", ["program", "cache", "n", "text"])]:
            function = getattr(journals, name)
            self.assertEqual(list(inspect.signature(function).parameters), parameters)
            self.assertEqual(function.__module__, "farmisses.journals")


if __name__ == "__main__":
    unittest.main()
