"""A whole run while a tick is under way."""

from meantrace.flatwalkers import FlatWalker
from meantrace.floors import Floor
from meantrace.steps import step
from meantrace.walkers import Walker


class World:
    """Items and processes as they are now, made from a state, which stays as it is."""

    def __init__(self, layout, state, walkers):
        self.layout = layout
        self.ended = state[0]
        self.floor = Floor(layout, state)
        self.walkers = walkers
        for walker in walkers:
            for name in walker.held_units():
                self.floor.take_unit(name)

    def frozen(self):
        """The state as it is now."""
        floor = self.floor
        points = tuple(walker.point() for walker in self.walkers)
        queues = tuple(tuple(queue) for queue in floor.queues)
        belts = tuple(tuple(belt) for belt in floor.belts)
        phases, levels, counts = tuple(floor.phases), tuple(floor.levels), tuple(floor.counts)
        return (self.ended, phases, points, queues, levels, belts, counts)

    def walker_named(self, name):
        """The process with this name."""
        return self.walkers[self.layout.process_numbers[name]]

    def mover(self):
        """The least number of a process that can move, or None."""
        if self.ended:
            return None
        for number, walker in enumerate(self.walkers):
            if self.can_move(walker):
                return number
        return None

    def can_move(self, walker):
        """Whether a process can move."""
        if walker.mode == "ready":
            return not self.floor.is_blocked(walker.statement)
        if walker.mode == "held":
            return walker.left == 0
        if walker.mode == "asking":
            return walker.left == 0 or self.floor.is_served(walker.statement[1], walker.number)
        return walker.mode == "broken"

    def stream_at(self, number):
        """The stream of which the move of this process reads a digit, or None."""
        walker = self.walkers[number]
        if walker.mode == "ready" and walker.statement[0] == "draw":
            return walker.statement[1]
        return None

    def move(self, number, tick, digit):
        """Make the move of this process, which can move; return its events."""
        walker = self.walkers[number]
        return [(tick, walker.name, *tail) for tail in step(self, walker, digit)]

    def move_to_draw(self, tick):
        """Make moves until the next one reads a digit or no process can move.

        Returns the events, and the number of the process that reads, or None.
        """
        events = []
        number = self.mover()
        while number is not None and self.stream_at(number) is None:
            events.extend(self.move(number, tick, None))
            number = self.mover()
        return (events, number)

    def end_run(self):
        """Nothing moves any more."""
        self.ended = 1

    def quiet_ticks(self):
        """How many ticks go by before some process can move; None if none ever can."""
        if self.ended:
            return None
        waits = [self.wait_of(walker) for walker in self.walkers]
        return min([wait for wait in waits if wait is not None], default=None)

    def wait_of(self, walker):
        """How many ticks go by before a process can move, if no other one does, or None."""
        if walker.mode == "ready":
            return self.floor.wait_at(walker.statement)
        if walker.mode == "held":
            return walker.left
        if walker.mode == "asking":
            return self.wait_in_queue(walker)
        return 0 if walker.mode == "broken" else None

    def wait_in_queue(self, walker):
        """How many ticks go by before a process leaves its queue, or None."""
        patience = walker.left if walker.left >= 0 else None
        name = walker.statement[1]
        if not self.floor.is_first(name, walker.number):
            return patience
        wait = self.floor.wait_for_unit(name)
        if patience is None or wait is None:
            return wait if patience is None else patience
        return min(patience, wait)

    def pass_time(self, ticks):
        """So many ticks go by, if the run has not ended."""
        if self.ended:
            return
        self.floor.pass_time(ticks)
        for walker in self.walkers:
            walker.pass_time(ticks)


def plain_world(layout, state):
    """The world of a state of a plain run."""
    walkers = []
    for number, process in enumerate(layout.processes):
        walkers.append(Walker(number, process, state[2][number]))
    return World(layout, state, walkers)


def flat_world(layout, codes, state):
    """The world of a flat state."""
    walkers = []
    for number, process in enumerate(layout.processes):
        walkers.append(FlatWalker(number, process[1], codes[number], state[2][number]))
    return World(layout, state, walkers)
