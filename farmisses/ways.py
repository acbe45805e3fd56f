"""Ways through programs: rounds one by one, and many of them at once where a loop has a return."""

from farmisses.machine import Memory
from farmisses.plans import Loop, bases_of, made_by, plan
from farmisses.players import Player
from farmisses.returns import Before

_MOST_STEPS = 100000


class BrokenPaper(Exception):
    """A paper that does not hold."""


class NoCase(Exception):
    """A loop with returns, none of which goes into the rounds that it has for all far numbers."""


class NearNumbers:
    """What a way asks and tells about its numbers; all of it is plain where they are near."""

    def goes_into(self, rounds, many):
        """Return whether a loop with so many rounds may do so many of them at once, again and again."""
        return True

    def memory_for(self, cache, bases):
        """Return an empty memory."""
        return Memory(cache, bases)

    def see_lines(self, lines):
        """Note that lines, given by pairs (array, line), are compared with one another."""

    def see_above(self, number):
        """Note that a number is taken to be above 0."""


class Way(Player):
    """A way that may do rounds at once; its numbers tell what it needs to know about them."""

    def __init__(self, program, cache, n, numbers):
        Player.__init__(self, numbers.memory_for(cache, bases_of(program, cache, n)), _MOST_STEPS)
        self.block = plan(program, n, cache.period, cache.line)
        self._numbers = numbers

    def mark(self, loop, begin):
        """Return what stands before a round of a loop."""
        return Before(loop, begin, self._counters, self.memory)

    def take_return(self, loop, before, matching, many, end):
        """Do so many rounds at once as often as they go into the rounds up to end, then those that lack.

        The way stands so many rounds behind the mark, and what stands is related by this matching.
        """
        here = before.begin + many
        times = (end - here) // many
        for number in [*matching.proofs, loop.rounds - here]:
            self._numbers.see_above(number)
        for lines in matching.compared():
            self._numbers.see_lines(lines)
        self.memory.go_on(before.stood, before.counts, times)
        self.play_rounds(loop, here + times * many, end)


class Search(Way):
    """A way that looks for a return at each even loop; its entries are those of its paper."""

    def __init__(self, program, cache, n, numbers):
        Way.__init__(self, program, cache, n, numbers)
        self.entries = []

    def play_loop(self, loop):
        """Play a loop."""
        self.search(loop, loop.rounds)

    def search(self, loop, end):
        """Play the rounds of a loop up to end; take a return if one is met.

        Before some rounds a mark is set, each time twice as far behind the one before, and each later
        round is compared with the last mark. So at most twice as many rounds are done as are needed
        to come behind the beginning of a return, and to look as far as it reaches.
        """
        entry = len(self.entries)
        self.entries.append(None)
        if loop.pace == 0:
            self.play_rounds(loop, 0, end)
            return
        before = None
        spoiled = None
        next_mark = 0
        for number in range(end):
            many = 0 if before is None else number - before.begin
            if many > 0 and many % loop.pace == 0 and number + many <= end:
                matching = before.matching(self.memory, many)
                if matching is not None and self._numbers.goes_into(loop.rounds, many):
                    self.entries[entry] = (before.begin, many)
                    self.take_return(loop, before, matching, many, end)
                    return
                if matching is not None:
                    spoiled = self._spoiled(spoiled, before)
            if number == next_mark and number + 2 * loop.pace <= end:
                before = self.mark(loop, number)
                next_mark = 2 * number + loop.pace
            self.play_round(loop, number)

    def _spoiled(self, spoiled, before):
        """Return the round of the first mark with a return that does not go into the loop's rounds.

        At the mark behind it, the first return met is the shortest one of this loop, and each
        other one is a multiple of it: then none will do.
        """
        if spoiled is None or spoiled == before.begin:
            return before.begin
        raise NoCase()

    def play_upto(self, block, time):
        """Play the first accesses of a block, so many of them, and nothing behind the last one."""
        for statement in block:
            if time == 0:
                return
            if isinstance(statement, Loop) and time <= made_by(statement):
                rounds = (time - 1) // statement.many
                self.search(statement, rounds)
                self.step()
                self._counters[statement.depth] = rounds
                self.play_upto(statement.block, time - rounds * statement.many)
                return
            self.play_block([statement])
            time -= made_by(statement)


class Follow(Way):
    """A way that takes just the returns of a paper; raises BrokenPaper if it does not hold."""

    def __init__(self, program, cache, n, numbers, entries):
        Way.__init__(self, program, cache, n, numbers)
        self._entries = entries
        self._used = 0

    def play_all(self):
        """Play the program; the whole paper is needed for it."""
        self.play_block(self.block)
        if self._used < len(self._entries):
            raise BrokenPaper()

    def play_loop(self, loop):
        """Play a loop."""
        if self._used == len(self._entries):
            raise BrokenPaper()
        entry = self._entries[self._used]
        self._used += 1
        if entry is None:
            self.play_rounds(loop, 0, loop.rounds)
            return
        begin, many = entry
        if loop.pace == 0 or many % loop.pace != 0 or begin + many >= loop.rounds:
            raise BrokenPaper()
        self.play_rounds(loop, 0, begin)
        before = self.mark(loop, begin)
        self.play_rounds(loop, begin, begin + many)
        matching = before.matching(self.memory, many)
        if matching is None or not self._numbers.goes_into(loop.rounds, many):
            raise BrokenPaper()
        self.take_return(loop, before, matching, many, loop.rounds)
