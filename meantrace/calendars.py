"""Runs of flat code that leap over the ticks in which no process moves."""

from meantrace.flatruns import FlatRun
from meantrace.ticking import run_tick
from meantrace.worlds import flat_world


class CalendarRun(FlatRun):
    """A flat run that can leap, too. Between leaps it is all that a flat run is."""

    def __init__(self, model, codes, tapes):
        super().__init__(model, codes, tapes)

    @property
    def clock(self):
        """How many ticks are over."""
        return self.now[0]

    @property
    def reads(self):
        """How many digits are read from each tape."""
        return self.now[1]

    @property
    def snapshot(self):
        """Clock, reads and flat state."""
        return self.now

    @snapshot.setter
    def snapshot(self, value):
        self.now = value

    def resume(self, snapshot):
        """Go on from a snapshot; return its clock."""
        return super().resume(snapshot)

    def frame(self):
        """The frame that the state has now."""
        return super().frame()

    def leap(self, limit):
        """Do the first busy tick below the limit; return its number and events, or None."""
        clock, reads, state = self.now
        if clock >= limit:
            return None
        world = flat_world(self.layout, self.codes, state)
        wait = world.quiet_ticks()
        if wait is None or clock + wait >= limit:
            world.pass_time(limit - clock)
            self.now = (limit, reads, world.frozen())
            return None
        world.pass_time(wait)
        tick = clock + wait
        events, done = run_tick(world, self.tapes, tick, reads)
        self.now = (tick + 1, done, world.frozen())
        return (tick, events)
