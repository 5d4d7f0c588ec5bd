"""The gauges of a model, and their values."""

from meantrace.layouts import Layout, items_of
from meantrace.worlds import plain_world


def gauges(model):
    """The gauges of a model in order."""
    items = model[3]
    rows = []
    for item in items_of(items, "resource"):
        rows.append(("busy", item[1]))
        rows.append(("queue", item[1]))
    for kind in ("store", "belt", "counter"):
        rows.extend([(kind, item[1]) for item in items_of(items, kind)])
    return tuple(rows)


def gauge_values(model, state):
    """The values of the gauges in a state."""
    return plain_world(Layout(model), state).floor.frame()
