"""Plain runs."""

from meantrace.checks import check
from meantrace.layouts import Layout
from meantrace.reading import read_model
from meantrace.states import start_state
from meantrace.ticking import run_tick
from meantrace.trials import Trial
from meantrace.worlds import plain_world


class PlainRun:
    """A plain run of a model. All that changes is `now`, which is its snapshot."""

    def __init__(self, model, tapes):
        self.model = model
        self.tapes = tapes
        self.layout = Layout(model)
        self.now = (0, tuple(0 for _ in tapes), start_state(model))

    @classmethod
    def of(cls, text, tapes):
        """A run of the model of a text."""
        model = read_model(text)
        check(model)
        return cls(model, tapes)

    @property
    def clock(self):
        """How many ticks are over."""
        return self.now[0]

    @property
    def reads(self):
        """How many digits are read from each tape."""
        return self.now[1]

    @property
    def state(self):
        """The state."""
        return self.now[2]

    @property
    def snapshot(self):
        """Clock, reads and state."""
        return self.now

    @snapshot.setter
    def snapshot(self, value):
        self.now = value

    def resume(self, snapshot):
        """Go on from a snapshot; return its clock."""
        self.now = snapshot
        return snapshot[0]

    def tick(self):
        """Do a tick; return its events."""
        clock, reads, state = self.now
        world = plain_world(self.layout, state)
        events, done = run_tick(world, self.tapes, clock, reads)
        self.now = (clock + 1, done, world.frozen())
        return events

    def played(self, n):
        """Do n ticks, each when its events are asked for."""
        for _ in range(n):
            yield self.tick()

    def trial(self):
        """A block at whose end the run is put back."""
        return Trial(self)

    def tried(self, n):
        """The events of the next n ticks; the run is put back behind them."""
        events = []
        with self.trial():
            for _ in range(n):
                events.extend(self.tick())
        return tuple(events)

    def fork(self, tapes):
        """A new run at this clock and state, with tapes of its own."""
        clock, _, state = self.now
        twin = PlainRun(self.model, tapes)
        twin.now = (clock, twin.reads, state)
        return twin
