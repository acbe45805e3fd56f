"""A console: a session that is led by commands."""

from farmisses.best import best
from farmisses.caches import Cache
from farmisses.costs import cost
from farmisses.errors import InvalidCommand, InvalidText
from farmisses.orders import legal_orders
from farmisses.printing import show
from farmisses.programs import Program
from farmisses.questions import ask, rows_of
from farmisses.sessions import Session
from farmisses.texts import parse_block
from farmisses.tokens import is_short_number
from farmisses.walks import lost

_LENGTHS = {"size": 2, "back": 1, "show": 1, "counts": 1, "cost": 1, "orders": 1, "best": 1, "lost": 2}
_WITH_TEXT = ("program", "cache", "edit", "ask")


def _show_answer(session):
    """Return the number, the cache and the program."""
    return _joined([f"n {session.n}", session.cache.show(), *show(session.program.tree()).splitlines()])


def _counts_answer(session):
    """Return a line for each row."""
    lines = []
    for kind, level, access, other, _, _, number in rows_of(session.program, session.cache, session.n):
        words = [kind, level, access, other, number]
        lines.append(" ".join([str(word) for word in words if word is not None]))
    return _joined(lines)


def _cost_answer(session):
    """Return the cost of the tally."""
    return str(cost(session.cache, session.tallied()))


def _orders_answer(session):
    """Return a line for each legal order."""
    program = session.program
    n = session.n
    orders = list(legal_orders(program, n))
    return _joined([_line(order) for order in orders])


def _best_answer(session):
    """Return the cost and the names of the best order."""
    least, (_, order) = best(session.program, session.cache, session.n)
    return " ".join([str(least), *order])


def _lost_answer(session, time):
    """Return a line for each dirty line behind so many accesses."""
    found = lost(session.program, session.cache, session.n, time)
    return _joined([f"{level} {array} {line}" for level, array, line in found])


def _ask_answer(session, text):
    """Return the answer to a question."""
    answer = ask(session.program, session.cache, session.n, text)
    if isinstance(answer, bool):
        return "yes" if answer else "no"
    return str(answer)


_ANSWERS = {"show": _show_answer, "counts": _counts_answer, "cost": _cost_answer, "orders": _orders_answer,
            "best": _best_answer}


class Console:
    """Keeps a session; at first of an empty program."""

    def __init__(self):
        self._session = Session(Program(((), ())), Cache(1, ((1, 1, "used", "back"),)), 0)

    def execute(self, command):
        """Do what a command tells and return the answer."""
        words = _words_of(command)
        word = words[0]
        text = " ".join(words[1:])
        if word == "program":
            return self._begin_session(text)
        if word == "ask":
            return _ask_answer(self._session, text)
        if word == "lost":
            return _lost_answer(self._session, _number(text))
        if word in _ANSWERS:
            answer = _ANSWERS[word]
            return answer(self._session)
        told = self._session.perform(_event(word, text))
        return f"{told} {_cost_answer(self._session)}"

    def _begin_session(self, text):
        """Begin a session with another program, and with the cache and the number that are there."""
        session = self._session
        self._session = Session(Program.read(text), session.cache, session.n)
        return "ok"


def _words_of(command):
    """Return the list of the words of any value; raise InvalidCommand if it is no command."""
    if not isinstance(command, str) or "\n" in command:
        raise InvalidCommand(None)
    words = command.split(" ")
    if "" in words:
        raise InvalidCommand(None)
    word = words[0]
    if word in _WITH_TEXT:
        fits_form = len(words) > 1
    else:
        fits_form = len(words) == _LENGTHS.get(word, 0)
    if not fits_form:
        raise InvalidCommand(word)
    return words


def _event(word, text):
    """Return the event of a command."""
    if word == "size":
        return (word, _number(text))
    if word == "edit":
        return (word, parse_block(text))
    if word == "cache":
        cache = Cache.read(text)
        return (word, cache.line, cache.levels)
    return (word,)


def _number(word):
    """Return the value of a word that is a number."""
    if not is_short_number(word):
        raise InvalidText(word)
    return int(word)


def _joined(lines):
    """Return the lines as an answer."""
    return "\n".join(lines) if lines != [] else "-"


def _line(names):
    """Return the line with these names."""
    return " ".join(names) if names != () else "-"
