"""Sessions: a program, a cache and a number that events change, with what they count."""

from farmisses.errors import InvalidEvent
from farmisses.events import changed, is_back, is_event
from farmisses.walks import count


class Session:
    """A session that begins with a program, a cache and a number."""

    def __init__(self, program, cache, n):
        self._begun = (program, cache, n)
        self._now = self._begun
        self._tally = count(program, cache, n)
        # What stood before each event that has not been taken back: pairs (setting, tally).
        self._past = []
        self._journal = []

    @classmethod
    def replayed(cls, program, cache, n, events):
        """Return the session that results if a list of events is performed."""
        session = cls(program, cache, n)
        for event in events:
            session.perform(event)
        return session

    @property
    def program(self):
        """The program."""
        return self._now[0]

    @property
    def cache(self):
        """The cache."""
        return self._now[1]

    @property
    def n(self):
        """The number."""
        return self._now[2]

    def begun(self):
        """Return the tuple (program, cache, n) with which the session began."""
        return self._begun

    def tallied(self):
        """Return the tally."""
        return {key: self._tally[key] for key in self._tally}

    def journal(self):
        """Return the list of all events that were performed."""
        return list(self._journal)

    def perform(self, event):
        """Perform an event; return whether the tally is the `same` as before or an `other` one."""
        if not is_event(event) or (is_back(event) and self._past == []):
            raise InvalidEvent(event)
        before = self._tally
        if is_back(event):
            self._now, self._tally = self._past.pop()
        else:
            setting = changed(self._now, event)
            program, cache, n = setting
            tally = count(program, cache, n)
            self._past.append((self._now, before))
            self._now = setting
            self._tally = tally
        self._journal.append(event)
        return "same" if self._tally == before else "other"

    def trial(self, events, call):
        """Perform a list of events and return what a call returns; the session is as before behind it."""
        now = self._now
        tally = self._tally
        # The events and the call may take back what is older than they are.
        past = list(self._past)
        journal = list(self._journal)
        try:
            for event in events:
                self.perform(event)
            return call()
        finally:
            self._now = now
            self._tally = tally
            self._past = past
            self._journal = journal
