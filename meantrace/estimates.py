"""Estimates by a plan over a chain, and their mean and the mean of their square."""

from meantrace.chains import branch_at
from meantrace.copying import Experiment
from meantrace.moments import Moments
from meantrace.shares import make_fraction


class ChainExperiment(Experiment):
    """A plan whose copies walk a chain."""

    def __init__(self, chain, plan, tape, coins):
        super().__init__(plan, tape, coins)
        self.lines = chain[2]

    def tick_at(self, state):
        """A copy reads the digits of a branch."""
        digits, shown, target = branch_at(self.lines[state], self.tape, self.taken)
        self.taken += len(digits)
        return (shown, target)


def estimate(chain, plan, ticks, tape, coins):
    """The score, and how many digits are read from the tape and from the coins."""
    return ChainExperiment(chain, plan, tape, coins).outcome(0, ticks)


def plan_mean(web, plan, ticks):
    """The mean of the score for the web of a chain."""
    moments = moments_for(web, plan, ticks)
    return make_fraction(moments.means[0][0], moments.unit)


def plan_square(web, plan, ticks):
    """The mean of the square of the score."""
    moments = moments_for(web, plan, ticks)
    return make_fraction(moments.squares[0][0], moments.unit * moments.unit)


def moments_for(web, plan, ticks):
    """The moments of copies that have so many ticks ahead of them."""
    moments = Moments(web, plan)
    for _ in range(ticks):
        moments.go_back()
    return moments
