"""Plans that are carried out: copies of runs that are made, given up and weighed."""

from meantrace.errors import Dry, TooMany
from meantrace.plans import letter_of
from meantrace.shares import product_of, sum_of

MOST_ALIVE = 64


class Experiment:
    """A plan with its tape and coins, and what is scored and read so far.

    A class below tells how a copy does a tick, with digits from the tape.
    """

    def __init__(self, plan, tape, coins):
        self.plan = plan
        self.tape = tape
        self.coins = coins
        self.total = (0, 1)
        self.taken = 0
        self.tossed = 0

    def tick_at(self, state):
        """A tick of a copy in this state: its shown and its next state."""
        return ((), state)

    def outcome(self, state, ticks):
        """The score, and how many digits are read from the tape and from the coins."""
        copies = [(state, 0, (1, 1))]
        for _ in range(ticks):
            made = []
            for copy in copies:
                made.extend(self.made_of(copy))
            if len(made) > MOST_ALIVE:
                raise TooMany("copies")
            copies = made
        return (self.total, self.taken, self.tossed)

    def made_of(self, copy):
        """The new copies that are made of a copy in a tick."""
        state, stage, weight = copy
        shown, target = self.tick_at(state)
        if self.plan[2] in shown:
            self.total = sum_of(self.total, product_of(weight, self.plan[4][stage]))
            return []
        made = []
        for keep, factor, to in self.plan[5][stage][letter_of(self.plan, shown)]:
            if self.is_kept(keep):
                made.append((target, to, product_of(weight, factor)))
        return made

    def is_kept(self, keep):
        """Whether a new copy is made; the coins are asked if that is not sure."""
        if keep >= self.plan[1]:
            return True
        if self.tossed >= len(self.coins):
            raise Dry("coins")
        self.tossed += 1
        return self.coins[self.tossed - 1] < keep
