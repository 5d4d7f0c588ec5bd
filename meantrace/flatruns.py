"""Runs of flat code."""

from meantrace.layouts import Layout
from meantrace.states import start_state
from meantrace.ticking import run_tick
from meantrace.trials import Trial
from meantrace.worlds import flat_world


class FlatRun:
    """A run of flat code. All that changes is `now`, which is its snapshot."""

    def __init__(self, model, codes, tapes):
        self.codes = codes
        self.tapes = tapes
        self.layout = Layout(model)
        self.now = (0, tuple(0 for _ in tapes), flat_start(model))

    @property
    def clock(self):
        """How many ticks are over."""
        return self.now[0]

    @property
    def reads(self):
        """How many digits are read from each tape."""
        return self.now[1]

    @property
    def state(self):
        """The flat state."""
        return self.now[2]

    @property
    def snapshot(self):
        """Clock, reads and flat state."""
        return self.now

    @snapshot.setter
    def snapshot(self, value):
        self.now = value

    def resume(self, snapshot):
        """Go on from a snapshot; return its clock."""
        self.now = snapshot
        return snapshot[0]

    def tick(self):
        """Do a tick; return its events."""
        clock, reads, state = self.now
        world = flat_world(self.layout, self.codes, state)
        events, done = run_tick(world, self.tapes, clock, reads)
        self.now = (clock + 1, done, world.frozen())
        return events

    def played(self, n):
        """Do n ticks, each when its events are asked for."""
        for _ in range(n):
            yield self.tick()

    def trial(self):
        """A block at whose end the run is put back."""
        return Trial(self)

    def tried(self, n):
        """The events of the next n ticks; the run is put back behind them."""
        events = []
        with self.trial():
            for _ in range(n):
                events.extend(self.tick())
        return tuple(events)

    def frame(self):
        """The frame that the state has now."""
        return flat_world(self.layout, self.codes, self.now[2]).floor.frame()


def flat_start(model):
    """The flat state at the beginning."""
    ended, phases, _, *rest = start_state(model)
    points = tuple(("held", process[2], 0, ()) for process in model[4])
    return (ended, phases, points, *rest)
