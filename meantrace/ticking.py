"""Ticks of a world that reads digits from tapes."""

from meantrace.errors import Dry


class Ticker:
    """Makes the moves of one tick, one after the other."""

    def __init__(self, world, tapes, tick, reads):
        self.world = world
        self.tapes = tapes
        self.at_tick = tick
        self.done = list(reads)
        self.told = []

    def step_on(self):
        """Make the next move; return the number of its process, or None if none can move."""
        mover = self.world.mover()
        if mover is not None:
            digit = self.next_digit(self.world.stream_at(mover))
            self.told.extend(self.world.move(mover, self.at_tick, digit))
        return mover

    def next_digit(self, stream):
        """Read a digit of a stream; no digit for no stream."""
        if stream is None:
            return None
        number = self.world.layout.stream_numbers[stream]
        at = self.done[number]
        if at >= len(self.tapes[number]):
            raise Dry(stream)
        self.done[number] = at + 1
        return self.tapes[number][at]


def run_tick(world, tapes, tick, reads):
    """Do a whole tick; return its events, and how many digits are read behind it."""
    ticker = Ticker(world, tapes, tick, reads)
    while ticker.step_on() is not None:
        pass
    world.pass_time(1)
    return (tuple(ticker.told), tuple(ticker.done))
