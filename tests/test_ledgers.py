"""Points 3 (k) and 24, and the interface of farmisses/ledgers.py."""

import inspect
import unittest

import oracle
from farmisses import ledgers
from farmisses.caches import Cache
from farmisses.errors import FarError, InvalidNumber, LimitExceeded, OutOfRange
from farmisses.ledgers import is_ledger, ledger
from farmisses.papers import paper, told_count, told_steps
from farmisses.programs import Program
from farmisses.sessions import Session
from farmisses.texts import parse_block
from farmisses.walks import count

ONE = Cache(2, ((1, 1, "used", "back"),))
SWEEP = Program.read("array a 2*n for i n { read a[i] }")
BACK = ("back",)
EVENTS = [("size", 40), ("cache", 1, ((2, 2, "tree", "back"), (4, 1, "used", "through"))), BACK,
          ("edit", parse_block("for i n { write a[i] for k 2 { read a[2*i + k] } }")), ("size", 0), BACK, BACK]
BEGUN = (SWEEP, ONE, 30)


def shown(program, cache, n):
    return (tuple(sorted(count(program, cache, n).items())), paper(program, cache, n))


class LedgerCase(unittest.TestCase):

    def told(self, call, kind):
        with self.assertRaises(kind) as caught:
            call()
        self.assertIs(type(caught.exception), kind)
        fields = list(vars(caught.exception).values())
        self.assertEqual(len(fields), 1)
        return fields[0]

    def check(self, value, wanted, begun=BEGUN):
        self.assertIs(is_ledger(*begun, value), wanted, value)


class AcceptedTest(LedgerCase):

    def test_what_a_ledger_tells(self):
        session = Session.replayed(*BEGUN, EVENTS)
        first, rows = ledger(session)
        self.assertEqual(first, shown(*BEGUN))
        again = Session(*BEGUN)
        self.assertEqual(len(rows), len(EVENTS))
        for event, row in zip(EVENTS, rows):
            again.perform(event)
            self.assertEqual(row[0], event)
            self.assertEqual(row[1], tuple(sorted(again.tallied().items())))
            self.assertEqual(told_count(again.program, again.cache, again.n, row[2]), again.tallied())
            self.assertEqual(len(row), 3)
        self.assertIsInstance(rows, tuple)
        self.assertEqual(session.journal(), EVENTS)
        self.check(ledger(session), True)

    def test_the_beginning_and_each_event(self):
        for many in range(len(EVENTS) + 1):
            value = ledger(Session.replayed(*BEGUN, EVENTS[:many]))
            self.check(value, True)
            self.assertEqual(len(value[1]), many)
            self.assertEqual(value, (ledger(Session(*BEGUN))[0], ledger(Session.replayed(*BEGUN, EVENTS))[1][:many]))
        self.assertEqual(ledger(Session(*BEGUN)), (shown(*BEGUN), ()))

    def test_sessions_by_chance(self):
        random_ = oracle.generator(240)
        for _ in range(25):
            cache = oracle.some_cache(random_, 16)
            program = oracle.some_program(random_, even=True)
            session = Session(program, cache, 3)
            for _ in range(8):
                other = oracle.some_cache(random_, 16)
                event = random_.choice([BACK, BACK, ("size", random_.randint(0, 9)), ("cache", other.line, other.levels),
                                        ("edit", oracle.some_program(random_, even=True).body), ("size", -1)])
                try:
                    session.perform(event)
                except (FarError, LimitExceeded):
                    pass
            value = ledger(session)
            self.check(value, True, (program, cache, 3))
            self.assertEqual([row[0] for row in value[1]], session.journal())
            trial = session.trial([("size", 5)], lambda: ledger(session))
            self.check(trial, True, (program, cache, 3))
            self.assertEqual((trial[0], trial[1][:-1]), value)

    def test_great_numbers(self):
        begun = (SWEEP, ONE, 10 ** 60)
        session = Session.replayed(*begun, [("size", 10 ** 60 - 1), BACK])
        self.check(ledger(session), True, begun)
        self.check(ledger(session), False, (SWEEP, ONE, 10 ** 60 - 1))

    def test_other_papers_that_hold(self):
        counts, _ = shown(*BEGUN)
        for entries, wanted in [((None,), True), (((2, 2),), True), (((4, 6),), True), (((3, 4),), True), (((2, 3),), False),
                                ((), False), ((None, None), False), (((2, 28),), False), (((0, 2),), False)]:
            self.check(((counts, entries), ()), wanted)
            self.check((shown(*BEGUN), ((("size", 30), counts, entries),)), wanted)

    def test_where_counting_raises(self):
        # The line read ahead of the loop is touched late; only from there on, rounds are alike.
        program = Program.read("array a 999999 read a[32767] for i n { write a[i] }")
        cache = Cache(1, ((1, 1, "used", "through"),))
        n = 10 ** 5
        with self.assertRaises(LimitExceeded):
            count(program, cache, n)
        entries = ((32769, 1),)
        counts = ((("hit", 0, 1), 1), (("miss", 0, 0), 1), (("miss", 0, 1), n - 1))
        self.assertEqual(told_count(program, cache, n, entries), dict(counts))
        begun = (program, cache, n)
        self.check(((counts, entries), ()), True, begun)
        self.check(((counts, (None,)), ()), False, begun)
        self.check(((counts, ((32768, 1),)), ()), False, begun)
        begun = (program, cache, 0)
        first = ledger(Session(*begun))[0]
        self.check((first, ((("size", n), counts, entries),)), True, begun)
        self.check((first, ((("size", n), counts, entries), (BACK, *first))), True, begun)
        self.check((first, ((("size", n), counts[1:], entries),)), False, begun)
        self.check((first, ((("size", n), counts, (None,)),)), False, begun)


class RefusedTest(LedgerCase):

    def setUp(self):
        self.value = ledger(Session.replayed(*BEGUN, EVENTS))

    def test_any_value(self):
        first, rows = self.value
        counts, entries = first
        for value in [None, True, 0, "", b"", [], {}, (), (first,), (first, rows, ()), [first, rows], (first, list(rows)),
                      (list(first), rows), (None, rows), (first, None), ((), ()), (first, (None,)), (first, ((),)),
                      ((counts,), rows), ((counts, entries, ()), rows), ((entries, counts), rows), (rows, first),
                      ((list(counts), entries), rows), ((counts, list(entries)), rows), ((dict(counts), entries), rows),
                      ((None, entries), rows), ((counts, None), rows), ((None, None), rows), (first, "abc"), ("ab", rows),
                      (first, first), (counts, entries)]:
            self.check(value, False)

    def test_rows_exchanged_left_out_or_doubled(self):
        first, rows = self.value
        self.check((first, rows), True)
        for at in range(len(rows)):
            left = rows[:at] + rows[at + 1:]
            self.check((first, left), self.is_right(left))
            doubled = rows[:at + 1] + rows[at:]
            self.check((first, doubled), self.is_right(doubled))
            for other in range(at):
                turned = list(rows)
                turned[at], turned[other] = rows[other], rows[at]
                self.check((first, tuple(turned)), self.is_right(tuple(turned)))
            for bent in [None, (), rows[at][:2], rows[at] + (0,), list(rows[at]), (rows[at],)]:
                self.check((first, rows[:at] + (bent,) + rows[at + 1:]), False)

    def is_right(self, rows):
        """Whether rows are right, by a session that performs their events."""
        try:
            session = Session(*BEGUN)
            for event, counts, entries in rows:
                session.perform(event)
                if counts != tuple(sorted(session.tallied().items())):
                    return False
                if told_count(session.program, session.cache, session.n, entries) is None:
                    return False
        except FarError:
            return False
        return True

    def test_other_events(self):
        first, rows = self.value
        many = 0
        for at, (event, counts, entries) in enumerate(rows):
            for other in [None, True, "back", (), ("back", 1), ["back"], ("size", None), ("size", True), ("size", -1),
                          ("size", 39), ("size", 10 ** 60 + 1), ("cache", 0, ()), ("cache", 1, ()), ("edit", None), ("edit", ()),
                          ("edit", parse_block("read b[0]")), ("edit", parse_block("read a[2*n]")), list(event), (event,), BACK]:
                if other != event:
                    bent = rows[:at] + ((other, counts, entries),) + rows[at + 1:]
                    right = isinstance(other, tuple) and self.is_right(bent)
                    self.check((first, bent), right)
                    many += right
        self.assertLess(many, 4)

    def test_other_counts(self):
        first, rows = self.value
        for at in range(-1, len(rows)):
            counts = (first if at < 0 else rows[at])[-2]
            bents = [(), None, list(counts), dict(counts), counts + ((("hit", 0, 9), 1),), counts + counts[:1]]
            for index, (key, number) in enumerate(counts):
                before, behind = counts[:index], counts[index + 1:]
                bents += [before + behind, before + ((key, number + 1),) + behind, before + ((key, str(number)),) + behind,
                          before + ((key[0] + "s", *key[1:]), number) + behind, before + ([key, number],) + behind,
                          before + ((list(key), number),) + behind, before + ((key, number, 0),) + behind,
                          before + ((key, float(number)),) + behind, before + ((("x", *key[1:]), number),) + behind,
                          before + (((key[0], key[1] == 1, *key[2:]), number),) + behind,
                          before + (((*key[:-1], bool(key[-1])), number),) + behind, behind + ((key, number),) + before]
                if number == 1:
                    bents.append(before + ((key, True),) + behind)
            for bent in bents:
                if bent == counts and repr(bent) == repr(counts):
                    continue
                if at < 0:
                    self.check(((bent, first[1]), rows), False)
                else:
                    row = (rows[at][0], bent, rows[at][2])
                    self.check((first, rows[:at] + (row,) + rows[at + 1:]), False)

    def test_other_papers(self):
        first, rows = self.value
        for bent in [None, (), "x", [], (None, None), ((0, 1),), (None,) * 50, ((True, 2),)]:
            for at in range(-1, len(rows)):
                entries = (first if at < 0 else rows[at])[-1]
                if bent == entries:
                    continue
                if at < 0:
                    self.check(((first[0], bent), rows), False)
                else:
                    row = (*rows[at][:2], bent)
                    self.check((first, rows[:at] + (row,) + rows[at + 1:]), False)

    def test_another_beginning(self):
        value = ledger(Session(*BEGUN))
        self.check(value, True)
        for begun in [(SWEEP, ONE, 29), (SWEEP, Cache(4, ONE.levels), 30), (Program.read("array a n"), ONE, 30)]:
            self.check(value, False, begun)
        self.check(((), ()), False)
        # The same counts and a paper that holds are right for another program, too.
        self.check(value, True, (Program.read("array a 5*n array b 1 for k n { read a[k] }"), ONE, 30))

    def test_the_beginning_raises(self):
        short = Program.read("array a 9 for i n { write a[2*i] }")
        for value in [None, self.value, ()]:
            for n in [None, True, -1, 10 ** 60 + 1, "3"]:
                self.assertIs(self.told(lambda: is_ledger(short, ONE, n, value), InvalidNumber), n)
            self.assertEqual(self.told(lambda: is_ledger(short, ONE, 6, value), OutOfRange), 0)
        value = (shown(short, ONE, 5), ((("size", 6), *shown(short, ONE, 5)),))
        self.check(value, False, (short, ONE, 5))

    def test_back_with_nothing_to_take_back(self):
        first, _ = self.value
        self.check((first, ((BACK, *first),)), False)
        six = (("size", 6), *shown(SWEEP, ONE, 6))
        self.check((first, (six, (BACK, *first))), True)
        self.check((first, (six, (BACK, *first), (BACK, *first))), False)
        self.check((first, (six, (BACK, *first), six, (BACK, *first))), True)
        self.check((first, (six, six, (BACK, *six[1:]), (BACK, *first))), True)


class LedgersInterfaceTest(unittest.TestCase):

    def test_parameters(self):
        for name, parameters in [("ledger", ["session"]), ("is_ledger", ["program", "cache", "n", "value"])]:
            function = getattr(ledgers, name)
            self.assertEqual(list(inspect.signature(function).parameters), parameters)
            self.assertEqual(function.__module__, "farmisses.ledgers")

    def test_steps(self):
        value = ledger(Session(*BEGUN))
        self.assertLessEqual(told_steps(*BEGUN, value[0][1]), 100000)


if __name__ == "__main__":
    unittest.main()
