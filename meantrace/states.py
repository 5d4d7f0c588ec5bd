"""States of a model."""

from meantrace.layouts import Layout, items_of
from meantrace.worlds import plain_world


def start_state(model):
    """The state at the beginning."""
    _, _, _, items, processes = model
    resources = items_of(items, "resource")
    phases = tuple(0 for _ in resources)
    points = tuple(("held", process[2], ((0, -1, 0),)) for process in processes)
    queues = tuple(() for _ in resources)
    levels = tuple(item[2] for item in items_of(items, "store"))
    belts = tuple(() for _ in items_of(items, "belt"))
    counts = tuple(item[2] for item in items_of(items, "counter"))
    return (0, phases, points, queues, levels, belts, counts)


def free_units(model, state, resource):
    """The free units of the resource with this number."""
    return plain_world(Layout(model), state).floor.free_units(resource)
