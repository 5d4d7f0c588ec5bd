"""Single moves, and the passing of time."""

from meantrace.errors import Dry
from meantrace.layouts import Layout
from meantrace.worlds import plain_world


def next_mover(model, state):
    """The least number of a process that can move, or None."""
    return plain_world(Layout(model), state).mover()


def moved(model, state, tick, digit):
    """The events of the move of the next mover, and the state behind it."""
    world = plain_world(Layout(model), state)
    number = world.mover()
    stream = world.stream_at(number)
    if stream is not None and digit is None:
        raise Dry(stream)
    events = world.move(number, tick, digit)
    return (tuple(events), world.frozen())


def passed(model, state):
    """The state behind the passing of time."""
    world = plain_world(Layout(model), state)
    world.pass_time(1)
    return world.frozen()
