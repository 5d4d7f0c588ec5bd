"""Plain runs."""

from meantrace.checks import check
from meantrace.errors import Dry
from meantrace.layouts import Layout
from meantrace.reading import read_model
from meantrace.states import start_state
from meantrace.trials import Trial
from meantrace.worlds import plain_world


class PlainRun:
    """A plain run of a model. All that changes is `now`, which is its snapshot."""

    def __init__(self, model, tapes):
        self.model = model
        self.tapes = tapes
        self.layout = Layout(model)
        self.now = (0, tuple(0 for _ in tapes), start_state(model))

    @classmethod
    def of(cls, text, tapes):
        """A run of the model of a text."""
        model = read_model(text)
        check(model)
        return cls(model, tapes)

    @property
    def clock(self):
        """How many ticks are over."""
        return self.now[0]

    @property
    def reads(self):
        """How many digits are read from each tape."""
        return self.now[1]

    @property
    def state(self):
        """The state."""
        return self.now[2]

    @property
    def snapshot(self):
        """Clock, reads and state."""
        return self.now

    @snapshot.setter
    def snapshot(self, value):
        self.now = value

    def resume(self, snapshot):
        """Go on from a snapshot; return its clock."""
        self.now = snapshot
        return snapshot[0]

    def tick(self):
        """Do a tick; return its events."""
        clock, reads, state = self.now
        world = plain_world(self.layout, state)
        done = list(reads)
        events, number = world.move_to_draw(clock)
        while number is not None:
            digit = self.next_digit(world.stream_at(number), done)
            events.extend(world.move(number, clock, digit))
            more, number = world.move_to_draw(clock)
            events.extend(more)
        world.pass_time()
        self.now = (clock + 1, tuple(done), world.frozen())
        return tuple(events)

    def next_digit(self, stream, done):
        """Read a digit of a stream, of whose tape so many are read; count it there."""
        number = self.layout.stream_numbers[stream]
        at = done[number]
        if at >= len(self.tapes[number]):
            raise Dry(stream)
        done[number] = at + 1
        return self.tapes[number][at]

    def played(self, n):
        """Do n ticks, each when its events are asked for."""
        for _ in range(n):
            yield self.tick()

    def trial(self):
        """A block at whose end the run is put back."""
        return Trial(self)

    def tried(self, n):
        """The events of the next n ticks; the run is put back behind them."""
        events = []
        with self.trial():
            for _ in range(n):
                events.extend(self.tick())
        return tuple(events)

    def fork(self, tapes):
        """A new run at this clock and state, with tapes of its own."""
        clock, _, state = self.now
        twin = PlainRun(self.model, tapes)
        twin.now = (clock, twin.reads, state)
        return twin
