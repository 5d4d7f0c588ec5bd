"""A process of a flat run, on the instructions of its code."""

from meantrace.goers import Goer


class FlatWalker(Goer):
    """A process at an address, with a stack. Its statement is the instruction there.

    What leads a process on returns the names of the resources that it gives back on its way.
    """

    def __init__(self, number, name, code, point):
        mode, left, address, stack = point
        super().__init__(number, name, mode, left)
        self.code = code
        self.address = address
        self.stack = list(stack)
        self.look()

    def look(self):
        """Find the instruction at which the process is; one that is done is at none."""
        self.statement = self.code[self.address] if self.address >= 0 else None

    def point(self):
        """The point of the process in a flat state."""
        return (self.mode, self.left, self.address, tuple(self.stack))

    def wake_up(self):
        """Go on from a `hold` or a `wait`."""
        return self.go_on()

    def draw(self, digit):
        """Come to the address for this digit."""
        return self.come_to(self.statement[2][digit])

    def get_unit(self):
        """Go on from a `use` with a unit."""
        self.stack.append(("unit", self.statement[1]))
        return self.go_on()

    def give_up(self):
        """Go on from a `use` without a unit."""
        return self.come_to(self.statement[4])

    def branch(self, bit):
        """Go on from an `if`."""
        if bit == 1:
            return self.go_on()
        return self.come_to(self.statement[4])

    def begin_loop(self):
        """Begin the first turn of a `loop`."""
        self.stack.append(("turns", self.statement[1] - 1))
        return self.go_on()

    def begin_guard(self):
        """Go under guard."""
        self.stack.append(self.statement)
        return self.go_on()

    def go_on(self):
        """Come to the next address."""
        return self.come_to(self.address + 1)

    def come_to(self, address):
        """Come to an address; what stands there is done if it is done at once."""
        given = []
        self.wait("ready", 0)
        self.go_to(address)
        while self.mode == "ready" and self.statement[0] in AT_ONCE:
            given.extend(self.do_at_once())
        return given

    def go_to(self, address):
        """Be at an address, whatever stands there."""
        self.address = address
        self.look()

    def do_at_once(self):
        """Do the instruction at which the process is, and come to the next one."""
        action = AT_ONCE[self.statement[0]]
        return action(self)

    def break_out(self):
        """Leave the innermost guard for its handler."""
        given = []
        word, worth = self.stack.pop()
        while word != "guard":
            if word == "unit":
                given.append(worth)
            word, worth = self.stack.pop()
        return given + self.come_to(worth)

    def finish(self):
        """Give all units back and be done."""
        given = self.held_units()
        self.stack = []
        self.wait("done", 0)
        self.go_to(-1)
        return given

    def held_units(self):
        """The names of the resources of which the process has a unit, innermost first."""
        return [worth for word, worth in reversed(self.stack) if word == "unit"]

    def is_guarded(self):
        """Whether the process is under guard."""
        return any([word == "guard" for word, _ in self.stack])


def do_jump(walker):
    """Go where a `jump` leads."""
    walker.go_to(walker.statement[1])
    return []


def do_give(walker):
    """Give the unit of a `use` back."""
    _, name = walker.stack.pop()
    walker.go_to(walker.address + 1)
    return [name]


def do_again(walker):
    """Begin the next turn of a loop, or leave it behind the last one."""
    _, turns = walker.stack.pop()
    if turns > 0:
        walker.stack.append(("turns", turns - 1))
        walker.go_to(walker.statement[1])
    else:
        walker.go_to(walker.address + 1)
    return []


def do_unguard(walker):
    """Go out of a guard."""
    walker.stack.pop()
    walker.go_to(walker.address + 1)
    return []


def do_done(walker):
    """Be done."""
    return walker.finish()


AT_ONCE = {
    "jump": do_jump, "give": do_give, "again": do_again, "unguard": do_unguard, "done": do_done,
}
