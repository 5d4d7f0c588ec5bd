"""Estimates by a plan over plain runs of a model."""

from meantrace.copying import Experiment
from meantrace.errors import Dry
from meantrace.histories import shown_of
from meantrace.layouts import Layout
from meantrace.states import start_state
from meantrace.worlds import plain_world


class RunExperiment(Experiment):
    """A plan whose copies are plain runs; all of their streams read the one tape."""

    def __init__(self, model, plan, tape, coins):
        super().__init__(plan, tape, coins)
        self.layout = Layout(model)

    def tick_at(self, state):
        """A copy does a tick."""
        world = plain_world(self.layout, state)
        events, reader = world.move_to_draw(0)
        while reader is not None:
            events.extend(world.move(reader, 0, self.next_from_tape()))
            more, reader = world.move_to_draw(0)
            events.extend(more)
        world.pass_time(1)
        return (shown_of(events), world.frozen())

    def next_from_tape(self):
        """Read a digit from the tape."""
        if self.taken >= len(self.tape):
            raise Dry("tape")
        self.taken += 1
        return self.tape[self.taken - 1]


def estimate_runs(model, plan, ticks, tape, coins):
    """The score, and how many digits are read from the tape and from the coins."""
    return RunExperiment(model, plan, tape, coins).outcome(start_state(model), ticks)
