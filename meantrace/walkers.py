"""A process of a plain run, on the statements of its tree."""

from meantrace.bodies import body_of
from meantrace.goers import Goer


class Walker(Goer):
    """A process while a tick is under way.

    Beside each entry of its place stands, in the trail, the body whose statement the entry tells.
    What leads a process on returns the names of the resources that it gives back on its way.
    """

    def __init__(self, number, process, point):
        mode, left, place = point
        super().__init__(number, process[1], mode, left)
        self.entries = list(place)
        self.trail = trail_of(process, place)
        self.look()

    def look(self):
        """Find the statement at which the process is."""
        if self.entries:
            self.statement = self.trail[-1][self.entries[-1][0]]
        else:
            self.statement = None

    def point(self):
        """The point of the process in a state."""
        return (self.mode, self.left, tuple(self.entries))

    def wake_up(self):
        """Go on from a `hold`, or begin."""
        if self.statement[0] == "process":
            return self.enter(0, 0)
        return self.go_on()

    def draw(self, digit):
        """Enter the body of the arm with this digit."""
        numbers = [number for number, arm in enumerate(self.statement[2]) if digit in arm[0]]
        return self.enter(numbers[0], 0)

    def get_unit(self):
        """Enter the first body of a `use`."""
        return self.enter(0, 0)

    def give_up(self):
        """Enter the body otherwise of a `use`."""
        return self.enter(1, 0)

    def branch(self, bit):
        """Enter the body of an `if` for this bit."""
        return self.enter(1 - bit, 0)

    def begin_loop(self):
        """Enter the body of a `loop`."""
        return self.enter(0, self.statement[1] - 1)

    def begin_guard(self):
        """Enter the first body of a `guard`."""
        return self.enter(0, 0)

    def go_on(self):
        """Go on from the statement."""
        self.entries[-1] = (self.entries[-1][0] + 1, -1, 0)
        return self.settle()

    def enter(self, number, turns):
        """Enter a body of the statement."""
        self.push(number, turns)
        return self.settle()

    def push(self, number, turns):
        """Come to the beginning of a body of the statement told by the last entry."""
        k = self.entries[-1][0]
        self.entries[-1] = (k, number, turns)
        self.trail.append(body_of(self.trail[-1][k], number))
        self.entries.append((0, -1, 0))

    def settle(self):
        """Leave all bodies that have ended; then be ready, or done."""
        given = []
        while self.entries and self.entries[-1][0] == len(self.trail[-1]):
            given.extend(self.end_body())
        self.wait("ready" if self.entries else "done", 0)
        self.look()
        return given

    def end_body(self):
        """Leave the innermost body, which has ended."""
        self.come_out()
        k, number, turns = self.entries[-1]
        statement = self.trail[-1][k]
        word = statement[0]
        if word == "process":
            self.begin_cycle(statement)
        elif word == "loop" and turns > 0:
            self.push(0, turns - 1)
        else:
            self.entries[-1] = (k + 1, -1, 0)
            if word == "use" and number == 0:
                return [statement[1]]
        return []

    def begin_cycle(self, process):
        """Enter the cycle; with an empty one there is no place any more."""
        if process[4]:
            self.push(1, 0)
        else:
            self.come_out()

    def come_out(self):
        """Leave a body, or the whole process."""
        self.entries.pop()
        self.trail.pop()

    def break_out(self):
        """Leave the innermost `guard` in whose first body the process is, for its handler."""
        given = []
        self.come_out()
        while not self.is_in_first_body(len(self.entries) - 1, "guard"):
            if self.is_in_first_body(len(self.entries) - 1, "use"):
                given.append(self.statement_at(len(self.entries) - 1)[1])
            self.come_out()
        return given + self.enter(1, 0)

    def finish(self):
        """Give all units back and be done."""
        given = self.held_units()
        self.entries = []
        self.trail = []
        self.settle()
        return given

    def held_units(self):
        """The names of the resources of which the process has a unit, innermost first."""
        entries = range(len(self.entries) - 1, -1, -1)
        return [self.statement_at(at)[1] for at in entries if self.is_in_first_body(at, "use")]

    def is_guarded(self):
        """Whether the process is in the first body of a `guard`."""
        entries = range(len(self.entries))
        return any([self.is_in_first_body(at, "guard") for at in entries])

    def is_in_first_body(self, at, word):
        """Whether the entry with this number tells the first body of a statement with this word."""
        return self.entries[at][1] == 0 and self.statement_at(at)[0] == word

    def statement_at(self, at):
        """The statement that the entry with this number tells."""
        return self.trail[at][self.entries[at][0]]


def trail_of(process, place):
    """For each entry of a place the body in which its statement stands."""
    trail = []
    body = (process,)
    for k, number, _ in place:
        trail.append(body)
        if number >= 0:
            body = body_of(body[k], number)
    return trail
