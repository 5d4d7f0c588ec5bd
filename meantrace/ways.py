"""All ways that the digits can fall in a tick."""

from meantrace.errors import TooMany
from meantrace.layouts import Layout
from meantrace.worlds import plain_world

MOST_WAYS = 100


def ways(model, state):
    """The ways of a state."""
    layout = Layout(model)
    found = []
    branches = [((), (), state)]
    while branches:
        digits, events, here = branches.pop()
        world = plain_world(layout, here)
        told = list(events)
        if digits:
            told.extend(world.move(world.mover(), 0, digits[-1]))
        more, reader = world.move_to_draw(0)
        told.extend(more)
        if reader is None:
            world.pass_time(1)
            found.append((digits, tuple(told), world.frozen()))
        else:
            branches.extend(branches_at(layout.base, digits, tuple(told), world.frozen()))
        # Each branch that is open leads to one way at least.
        if len(found) + len(branches) > MOST_WAYS:
            raise TooMany("ways")
    return tuple(found)


def branches_at(base, digits, events, state):
    """What begins at a state whose next move reads a digit; the least digit stands last."""
    fallen = range(base - 1, -1, -1)
    return [((*digits, digit), events, state) for digit in fallen]
