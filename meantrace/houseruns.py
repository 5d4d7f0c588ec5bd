"""A house of a model that runs its own ticks."""

from meantrace.errors import TooLarge
from meantrace.houses import house_models, links_of
from meantrace.joining import join_events
from meantrace.layouts import Layout
from meantrace.states import start_state
from meantrace.ticking import run_tick
from meantrace.worlds import plain_world


class HouseRun:
    """A house, the events of the ticks that it has done, and what it was ahead of each of them.

    What comes to a house is told by a dict: how many things are due for a belt and a tick. A
    number below 0 tells none.
    """

    def __init__(self, model, house, links, tapes):
        self.layout = Layout(model)
        self.tapes = tapes
        self.inlets = [link[0] for link in links if link[3] == house]
        self.outlets = {link[0]: link[1] for link in links if link[2] == house}
        self.now = (0, tuple(0 for _ in tapes), start_state(model))
        self.past = []
        self.rows = []

    def do_tick(self, dues):
        """Do the next tick; return the belts and dues of the things that are sent in it."""
        clock, reads, state = self.now
        world = plain_world(self.layout, state)
        for belt in self.inlets:
            world.floor.receive(belt, dues.get((belt, clock), 0))
        events, done = run_tick(world, self.tapes, clock, reads)
        for belt in self.outlets:
            world.floor.empty_belt(belt)
        self.past.append(self.now)
        self.rows.append(events)
        self.now = (clock + 1, done, world.frozen())
        return self.sent_in(events)

    def sent_in(self, events):
        """The belts and dues of the things that are loaded on links in these events."""
        sent = []
        for tick, _, word, name, _ in events:
            if word == "load" and name in self.outlets:
                sent.append((name, tick + self.outlets[name]))
        return sent

    def take_back(self, tick):
        """Be as at the beginning of this tick; return the belts and dues of what is not sent now."""
        dropped = []
        for events in self.rows[tick:]:
            dropped.extend(self.sent_in(events))
        self.now = self.past[tick]
        self.past = self.past[:tick]
        self.rows = self.rows[:tick]
        return dropped


def homes_of(model, houses, tapes):
    """All houses of a model at their beginning."""
    links = links_of(model, houses)
    parts = house_models(model, houses)
    return [HouseRun(part, house, links, tapes) for house, part in enumerate(parts)]


def trace_of(model, homes, n, final):
    """The joined events of the ticks below n, which is not above the final tick."""
    if n > final:
        raise TooLarge("ticks")
    events = []
    for tick in range(n):
        events.extend(join_events(model, tuple(home.rows[tick] for home in homes)))
    return tuple(events)
