"""Points 3 (j) and 22, and the interface of farmisses/sessions.py."""

import inspect
import unittest

import oracle
from farmisses.caches import Cache
from farmisses.errors import (DuplicateName, FarError, InvalidCache, InvalidEvent, InvalidNumber, InvalidTree,
                              LimitExceeded, OutOfRange, TooLarge, UnknownName)
from farmisses.programs import Program
from farmisses.sessions import Session
from farmisses.texts import parse_block
from farmisses.walks import count

ONE = Cache(2, ((1, 1, "used", "back"),))
SWEEP = Program.read("array a n for i n { read a[i] }")
WIDER = ("cache", 2, ((2, 1, "used", "back"),))
TWICE = ("edit", parse_block("for i n { read a[i] read a[i] }"))
BACK = ("back",)
NO_EVENTS = [None, True, 0, "", "back", b"back", [], ["back"], {}, {"back": 1}, (), (None,), (True,), (0,), ("",),
             ("Back",), ("back ",), (b"back",), (("back",),), (["back"],), ("back", None), ("back", 1), ("edit",),
             ("edit", (), ()), ("size",), ("size", 1, 2), ("cache",), ("cache", 1), ("cache", 1, (), 0), ("program", ()),
             ("array", "n"), ({"a": 1}, 5)]


class Stop(Exception):
    pass


def picture(session):
    return (session.program.tree(), session.cache.show(), session.n, session.tallied(), session.journal())


class SessionCase(unittest.TestCase):

    def told(self, call, kind):
        with self.assertRaises(kind) as caught:
            call()
        self.assertIs(type(caught.exception), kind)
        fields = list(vars(caught.exception).values())
        self.assertEqual(len(fields), 1)
        return fields[0]

    def check_stands(self, session, program, cache, n):
        self.assertEqual((session.program, session.cache, session.n), (program, cache, n))
        self.assertEqual(session.tallied(), count(program, cache, n))


class EventsTest(SessionCase):

    def test_each_kind(self):
        session = Session(SWEEP, ONE, 4)
        self.check_stands(session, SWEEP, ONE, 4)
        self.assertEqual(session.journal(), [])
        wide = Cache(2, ((2, 1, "used", "back"),))
        twice = SWEEP.replaced(TWICE[1])
        for event, word, program, cache, n in [
                (WIDER, "other", SWEEP, wide, 4), (("size", 6), "other", SWEEP, wide, 6), (TWICE, "other", twice, wide, 6),
                (TWICE, "same", twice, wide, 6), (("size", 6), "same", twice, wide, 6), (BACK, "same", twice, wide, 6),
                (BACK, "same", twice, wide, 6), (BACK, "other", SWEEP, wide, 6), (("size", 5), "other", SWEEP, wide, 5),
                (BACK, "other", SWEEP, wide, 6), (BACK, "other", SWEEP, wide, 4), (BACK, "other", SWEEP, ONE, 4)]:
            self.assertEqual(session.perform(event), word, event)
            self.check_stands(session, program, cache, n)
            self.assertEqual(session.journal()[-1], event)
        self.assertIs(self.told(lambda: session.perform(BACK), InvalidEvent), BACK)
        self.assertEqual(len(session.journal()), 12)

    def test_the_word_tells_the_tally_alone(self):
        session = Session(Program.read("array a n array b 9 for i n { read a[0] }"), ONE, 5)
        self.assertEqual(session.perform(("edit", parse_block("for k 1 { } for i n { read a[0] }"))), "same")
        self.assertEqual(session.perform(("edit", parse_block("for i n { write a[0] }"))), "same")
        self.assertEqual(session.perform(("edit", parse_block("for i n { write a[0] } flush"))), "other")
        self.assertEqual(session.perform(("cache", 1, ((1, 1, "brought", "back"),))), "same")
        self.assertEqual(session.perform(BACK), "same")
        self.assertEqual(session.perform(BACK), "other")

    def test_great_numbers(self):
        session = Session(SWEEP, ONE, 10 ** 60)
        self.assertEqual(session.tallied()[("miss", 0, 0)], 10 ** 60 // 2)
        self.assertEqual(session.perform(("size", 10 ** 60 - 1)), "other")
        self.assertEqual(session.perform(BACK), "other")
        self.assertEqual(session.perform(("size", 10 ** 60)), "same")

    def test_back_behind_any_events(self):
        random_ = oracle.generator(220)
        for _ in range(40):
            events, past, now = [], [], (SWEEP, ONE, 6)
            session = Session(*now)
            for _ in range(25):
                chance = random_.random()
                if chance < 0.4:
                    event = BACK
                elif chance < 0.6:
                    event = ("size", random_.choice([0, 1, 5, 6, 9, -1, 10 ** 61, None]))
                elif chance < 0.8:
                    event = random_.choice([WIDER, ("cache", 1, ((1, 2, "tree", "back"),)), ("cache", 9, ()), ("cache", 1, 5)])
                else:
                    event = ("edit", parse_block(random_.choice(["flush", "", "for i n { write a[i] }", "read a[n]",
                                                                 "read b[0]", "read a[4]"])))
                before = picture(session)
                try:
                    word = session.perform(event)
                except FarError:
                    self.assertEqual(picture(session), before)
                    continue
                events.append(event)
                if event == BACK:
                    now = past.pop()
                else:
                    past.append(now)
                    program, cache, n = now
                    now = {"size": (program, cache, event[1]), "cache": (program, cache and Cache(*event[1:3]) if
                           event[0] == "cache" else cache, n), "edit": (program.replaced(event[1]) if
                           event[0] == "edit" else program, cache, n)}[event[0]]
                self.check_stands(session, *now)
                self.assertEqual(word, "same" if before[3] == session.tallied() else "other")
                self.assertEqual(session.journal(), events)
            again = Session.replayed(SWEEP, ONE, 6, events)
            self.assertEqual(picture(again), picture(session))
            # What can be taken back is the same, too.
            for _ in past:
                self.assertEqual(again.perform(BACK), session.perform(BACK))
                self.assertEqual(picture(again), picture(session))
            self.check_stands(session, SWEEP, ONE, 6)
            self.told(lambda: session.perform(BACK), InvalidEvent)
            self.told(lambda: again.perform(BACK), InvalidEvent)

    def test_what_is_returned_is_new(self):
        events = [WIDER, BACK]
        session = Session.replayed(SWEEP, ONE, 4, events)
        self.assertIsInstance(session, Session)
        events.append(BACK)
        session.journal().append(BACK)
        session.tallied()["x"] = 1
        self.assertEqual(session.journal(), [WIDER, BACK])
        self.assertEqual(session.tallied(), count(SWEEP, ONE, 4))
        self.assertEqual(events, [WIDER, BACK, BACK])


class RefusedTest(SessionCase):

    def refuse(self, session, event, kind):
        before = picture(session)
        value = self.told(lambda: session.perform(event), kind)
        self.assertEqual(picture(session), before)
        with self.assertRaises(kind):
            session.trial([WIDER, event], session.tallied)
        self.assertEqual(picture(session), before)
        return value

    def test_forms(self):
        for session in [Session(SWEEP, ONE, 4), Session.replayed(SWEEP, ONE, 4, [WIDER, ("size", 3), BACK])]:
            for event in NO_EVENTS:
                self.assertIs(self.refuse(session, event, InvalidEvent), event)

    def test_nothing_to_take_back(self):
        session = Session(SWEEP, ONE, 4)
        self.assertIs(self.told(lambda: session.perform(BACK), InvalidEvent), BACK)
        session.perform(WIDER)
        session.perform(BACK)
        self.assertIs(self.told(lambda: session.perform(BACK), InvalidEvent), BACK)
        self.assertEqual(session.journal(), [WIDER, BACK])
        self.assertIs(self.told(lambda: Session.replayed(SWEEP, ONE, 4, [BACK]), InvalidEvent), BACK)
        self.assertIs(self.told(lambda: Session.replayed(SWEEP, ONE, 4, [WIDER, BACK, BACK]), InvalidEvent), BACK)

    def test_edits(self):
        session = Session.replayed(SWEEP, ONE, 4, [WIDER])
        for value in [None, True, 0, "", "flush", [], {}, [("flush",)], ("flush",), (None,), (("flush", 1),), (["flush"],),
                      (("for", "i", (0, True), ()),), (("for", "i", (0,), ()),), (("read", "a", ((), [])),)]:
            self.assertEqual(self.refuse(session, ("edit", value), InvalidTree), ((("a", (0, 1)),), value))
        self.assertEqual(self.refuse(session, ("edit", parse_block("read b[0]")), UnknownName), "b")
        self.assertEqual(self.refuse(session, ("edit", parse_block("for a n { }")), DuplicateName), "a")
        self.assertEqual(self.refuse(session, ("edit", (("flush",),) * 41), TooLarge), "statements")
        self.assertEqual(self.refuse(session, ("edit", parse_block("read a[0] read a[4]")), OutOfRange), 1)

    def test_sizes(self):
        session = Session.replayed(SWEEP, ONE, 4, [WIDER])
        for value in [None, True, False, -1, 10 ** 60 + 1, "4", (4,), [4], {}, b"4"]:
            self.assertIs(self.refuse(session, ("size", value), InvalidNumber), value)
        short = Session(Program.read("array a 9 for i n { write a[2*i] }"), ONE, 4)
        self.assertEqual(self.refuse(short, ("size", 6), OutOfRange), 0)

    def test_caches(self):
        session = Session.replayed(SWEEP, ONE, 4, [WIDER])
        levels = ((1, 1, "used", "back"),)
        for value in [None, True, 0, 9, "1", [1], {}]:
            self.assertIs(self.refuse(session, ("cache", value, None), InvalidCache), value)
        for value in [None, (), [], 1, list(levels), levels * 4, {}]:
            self.assertIs(self.refuse(session, ("cache", 1, value), InvalidCache), value)
        for value in [None, (), (0, 1, "used", "back"), (1, 3, "tree", "back"), [1, 1, "used", "back"], (True, 1, "used", "back")]:
            self.assertIs(self.refuse(session, ("cache", 1, (*levels, value)), InvalidCache), value)
        self.assertEqual(self.refuse(session, ("cache", 8, ((3, 1, "used", "back"), (5, 1, "used", "back"))), TooLarge), "period")

    def test_limit(self):
        program = Program.read("array a 9*n for i n { }")
        session = Session(program, ONE, 10 ** 6)
        slow = parse_block("for i n { read a[i] read a[2*i] }")
        self.assertEqual(self.refuse(session, ("edit", slow), LimitExceeded), "steps")
        self.assertEqual(self.told(lambda: Session(program.replaced(slow), ONE, 10 ** 6), LimitExceeded), "steps")

    def test_the_beginning(self):
        short = Program.read("array a 9 for i n { write a[2*i] }")
        for value in [None, True, -1, 10 ** 60 + 1, "4"]:
            self.assertIs(self.told(lambda: Session(short, ONE, value), InvalidNumber), value)
            self.assertIs(self.told(lambda: Session.replayed(short, ONE, value, [None]), InvalidNumber), value)
        self.assertEqual(self.told(lambda: Session(short, ONE, 6), OutOfRange), 0)
        self.assertEqual(self.told(lambda: Session.replayed(short, ONE, 6, [None]), OutOfRange), 0)


class TrialsTest(SessionCase):

    def setUp(self):
        self.session = Session.replayed(SWEEP, ONE, 4, [WIDER, ("size", 7), BACK])
        self.before = picture(self.session)

    def check_as_before(self):
        self.assertEqual(picture(self.session), self.before)
        self.assertEqual(self.session.trial([BACK], lambda: self.session.cache), ONE)
        with self.assertRaises(InvalidEvent):
            self.session.trial([BACK, BACK], lambda: None)
        self.assertEqual(picture(self.session), self.before)

    def test_results(self):
        events = [("size", 9), TWICE]
        wide = Cache(*WIDER[1:])
        self.assertEqual(self.session.trial(events, self.session.tallied), count(SWEEP.replaced(TWICE[1]), wide, 9))
        self.assertEqual(self.session.trial(events, self.session.journal), self.before[4] + events)
        self.assertEqual(self.session.trial(events, lambda: (self.session.n, len(self.session.program))), (9, 2))
        self.assertIsNone(self.session.trial([], lambda: None))
        thing = object()
        self.assertIs(self.session.trial([], lambda: thing), thing)
        self.assertEqual(events, [("size", 9), TWICE])
        self.check_as_before()

    def test_a_call_that_performs_and_takes_back(self):
        def call():
            words = [self.session.perform(event) for event in [("size", 2), BACK, BACK, BACK]]
            return (words, self.session.cache, self.session.journal())
        words, cache, journal = self.session.trial([("size", 8)], call)
        self.assertEqual((words, cache), (["other", "other", "other", "other"], ONE))
        self.assertEqual(journal, self.before[4] + [("size", 8), ("size", 2), BACK, BACK, BACK])
        self.check_as_before()
        self.assertEqual(self.session.trial([BACK, ("size", 9), TWICE, BACK], lambda: (self.session.n, self.session.cache)),
                         (9, ONE))
        self.check_as_before()

    def test_a_call_that_raises(self):
        def call():
            self.session.perform(BACK)
            self.session.perform(("size", 3))
            raise Stop("told")
        with self.assertRaises(Stop) as caught:
            self.session.trial([("size", 5)], call)
        self.assertEqual(str(caught.exception), "told")
        self.check_as_before()
        self.assertEqual(self.told(lambda: self.session.trial([], lambda: self.session.perform(("size", -1))),
                                   InvalidNumber), -1)
        self.check_as_before()
        with self.assertRaises(KeyboardInterrupt):
            self.session.trial([TWICE], self.interrupt)
        self.check_as_before()

    def interrupt(self):
        raise KeyboardInterrupt()

    def test_a_trial_in_a_trial(self):
        seen = []

        def inner():
            self.session.perform(("size", 1))
            seen.append(picture(self.session))
            return self.session.n

        def call():
            before = picture(self.session)
            found = self.session.trial([BACK, BACK], inner)
            self.assertEqual(picture(self.session), before)
            with self.assertRaises(InvalidEvent):
                self.session.trial([BACK, BACK, BACK], inner)
            self.assertEqual(picture(self.session), before)
            with self.assertRaises(Stop):
                self.session.trial([TWICE], self.stop)
            self.assertEqual(picture(self.session), before)
            self.session.perform(TWICE)
            return found
        self.assertEqual(self.session.trial([("size", 8)], call), 1)
        self.assertEqual(len(seen), 1)
        self.assertEqual(seen[0][4], self.before[4] + [("size", 8), BACK, BACK, ("size", 1)])
        self.check_as_before()

    def stop(self):
        self.session.perform(BACK)
        raise Stop()

    def test_an_event_that_is_refused(self):
        calls = []
        for events, kind in [([("size", 9), ("size", None), TWICE], InvalidNumber), ([None], InvalidEvent),
                             ([("size", 9), BACK, BACK, BACK], InvalidEvent), ([TWICE, ("edit", None)], InvalidTree),
                             ([("cache", 0, ())], InvalidCache), ([("edit", parse_block("read a[n]"))], OutOfRange)]:
            with self.assertRaises(kind):
                self.session.trial(events, lambda: calls.append(1))
            self.check_as_before()
        self.assertEqual(calls, [])


class SessionInterfaceTest(SessionCase):

    def test_example(self):
        session = Session(Program.read("array a n for i n { read a[i] }"), Cache(2, ((1, 1, "used", "back"),)), 4)
        shown = session.trial([("size", 6)], session.tallied)
        words = [session.perform(event) for event in [("cache", 2, ((2, 1, "used", "back"),)), ("back",)]]
        self.assertEqual([shown == {("hit", 0, 0): 3, ("miss", 0, 0): 3, ("thrown", 0, 0, 0): 2}, words, session.journal()],
                         [True, ["other", "other"], [("cache", 2, ((2, 1, "used", "back"),)), ("back",)]])

    def test_interface(self):
        self.assertEqual(list(inspect.signature(Session).parameters), ["program", "cache", "n"])
        for name, parameters in [("tallied", []), ("journal", []), ("perform", ["event"]), ("trial", ["events", "call"])]:
            self.assertEqual(list(inspect.signature(vars(Session)[name]).parameters), ["self", *parameters])
        self.assertIsInstance(vars(Session)["replayed"], classmethod)
        self.assertEqual(list(inspect.signature(Session.replayed).parameters), ["program", "cache", "n", "events"])
        for name in ["program", "cache", "n"]:
            self.assertIsInstance(vars(Session)[name], property)
        self.assertEqual(Session.__module__, "farmisses.sessions")


if __name__ == "__main__":
    unittest.main()
