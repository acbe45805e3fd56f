"""Playing the statements of a plan, each round and each access by itself."""

from farmisses.errors import LimitExceeded
from farmisses.plans import Loop, Touch

_MOST_DEPTH = 5


class Player:
    """Plays statements with a memory, in at most so many steps."""

    def __init__(self, memory, most_steps):
        self.memory = memory
        self._counters = [0] * _MOST_DEPTH
        self.steps = 0
        self._most_steps = most_steps
        self._cells = memory.cache.line

    def step(self):
        """Count a step; raise LimitExceeded if there were too many."""
        self.steps += 1
        if self.steps > self._most_steps:
            raise LimitExceeded("steps")

    def play_block(self, block):
        """Play the statements of a block."""
        for statement in block:
            if isinstance(statement, Touch):
                self.steps += 1
                if self.steps > self._most_steps:
                    raise LimitExceeded("steps")
                line = statement.index_at(self._counters) // self._cells
                self.memory.request(0, statement.array, line, statement.is_write, statement.number)
            elif isinstance(statement, Loop):
                self.play_loop(statement)
            else:
                # A flush is no step of a way.
                self.memory.flush()

    def play_loop(self, loop):
        """Play a loop."""
        self.play_rounds(loop, 0, loop.rounds)

    def play_rounds(self, loop, begin, end):
        """Play the rounds of a loop from begin on, the round end not included."""
        # Each round is a step, so that it is known here whether there are too many.
        if end - begin > self._most_steps - self.steps:
            raise LimitExceeded("steps")
        for number in range(begin, end):
            self.play_round(loop, number)

    def play_round(self, loop, number):
        """Play one round of a loop."""
        self.steps += 1
        if self.steps > self._most_steps:
            raise LimitExceeded("steps")
        self._counters[loop.depth] = number
        self.play_block(loop.block)
