"""The moves of processes.

A move returns the ends of its events: the words, names and numbers that are told.
"""


def step(world, walker, digit):
    """Make the move of a process that can move. Only a `draw` looks at the digit."""
    if walker.mode == "held":
        return [("wake", "", 0), *handed_back(world, walker.wake_up())]
    if walker.mode == "broken":
        return [("broken", "", 0), *handed_back(world, walker.break_out())]
    if walker.mode == "asking":
        return step_asking(world, walker)
    word = walker.statement[0]
    if word == "draw":
        return step_draw(world, walker, digit)
    action = STEPS[word]
    return action(world, walker)


def handed_back(world, names):
    """Units are given back."""
    for name in names:
        world.floor.give_unit(name)
    return [("give", name, 0) for name in names]


def step_asking(world, walker):
    """The process leaves the queue, with a unit or without one."""
    name = walker.statement[1]
    served = world.floor.is_served(name, walker.number)
    world.floor.leave_queue(name, walker.number)
    if served:
        world.floor.take_unit(name)
        return [("get", name, 0), *handed_back(world, walker.get_unit())]
    return [("leave", name, 0), *handed_back(world, walker.give_up())]


def step_draw(world, walker, digit):
    """The process goes on where the digit leads."""
    name = walker.statement[1]
    return [("draw", name, digit), *handed_back(world, walker.draw(digit))]


def step_hold(_, walker):
    """The process begins to wait."""
    n = walker.statement[1]
    walker.wait("held", n)
    return [("hold", "", n)]


def step_mark(world, walker):
    """The process shows a mark."""
    mark = walker.statement[1]
    return [("mark", mark, 0), *handed_back(world, walker.go_on())]


def step_add(world, walker):
    """A counter becomes more."""
    _, name, n = walker.statement
    worth = world.floor.change_count(name, n)
    return [("add", name, worth), *handed_back(world, walker.go_on())]


def step_drop(world, walker):
    """A counter becomes less."""
    _, name, n = walker.statement
    worth = world.floor.change_count(name, -n)
    return [("drop", name, worth), *handed_back(world, walker.go_on())]


def step_put(world, walker):
    """Things come to stores."""
    parts = walker.statement[1]
    for name, n in parts:
        world.floor.change_level(name, n)
    tails = [("put", name, n) for name, n in parts]
    return tails + handed_back(world, walker.go_on())


def step_take(world, walker):
    """Things leave stores."""
    parts = walker.statement[1]
    for name, n in parts:
        world.floor.change_level(name, -n)
    tails = [("take", name, n) for name, n in parts]
    return tails + handed_back(world, walker.go_on())


def step_load(world, walker):
    """A thing comes on a belt."""
    name = walker.statement[1]
    world.floor.load(name)
    return [("load", name, 0), *handed_back(world, walker.go_on())]


def step_unload(world, walker):
    """A thing leaves a belt."""
    name = walker.statement[1]
    world.floor.unload(name)
    return [("unload", name, 0), *handed_back(world, walker.go_on())]


def step_interrupt(world, walker):
    """A process is broken, if it can be; one that breaks itself stays where it is."""
    name = walker.statement[1]
    target = world.walker_named(name)
    if not can_break(target):
        return [("interrupt", name, 0), *handed_back(world, walker.go_on())]
    if target.mode == "asking":
        world.floor.leave_queue(target.statement[1], target.number)
    target.wait("broken", 0)
    if target.number == walker.number:
        return [("interrupt", name, 1)]
    return [("interrupt", name, 1), *handed_back(world, walker.go_on())]


def can_break(target):
    """Whether an `interrupt` of a process breaks it."""
    return target.mode not in ("broken", "done") and target.is_guarded()


def step_stop(world, walker):
    """The process is done."""
    return [("stop", "", 0), *handed_back(world, walker.finish())]


def step_end(world, _):
    """The run ends."""
    world.end_run()
    return [("end", "", 0)]


def step_use(world, walker):
    """The process stands in a queue."""
    _, name, rank, patience = walker.statement[:4]
    world.floor.join_queue(name, rank, walker.number)
    walker.wait("asking", -1 if patience is None else patience)
    return [("ask", name, rank)]


def step_if(world, walker):
    """The process goes on where the gauge leads."""
    _, gauge, name, n = walker.statement[:4]
    bit = 1 if world.floor.gauge_value(gauge, name) >= n else 0
    return [("test", name, bit), *handed_back(world, walker.branch(bit))]


def step_loop(world, walker):
    """The process begins the first turn of a loop."""
    n = walker.statement[1]
    return [("loop", "", n), *handed_back(world, walker.begin_loop())]


def step_guard(world, walker):
    """The process goes under guard."""
    return [("guard", "", 0), *handed_back(world, walker.begin_guard())]


STEPS = {
    "hold": step_hold, "mark": step_mark, "add": step_add, "drop": step_drop, "put": step_put,
    "take": step_take, "load": step_load, "unload": step_unload, "interrupt": step_interrupt,
    "stop": step_stop, "end": step_end, "use": step_use, "if": step_if, "loop": step_loop,
    "guard": step_guard,
}
