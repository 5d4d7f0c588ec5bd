"""Records of houses, and how they are renewed when the model changes."""

from meantrace.houseruns import HouseRun, homes_of
from meantrace.houses import house_models, links_of


def records(model, houses, tapes, ticks):
    """The records of the houses for so many ticks when all things come that are due."""
    homes = homes_of(model, houses, tapes)
    dues = {}
    for _ in range(ticks):
        for home in homes:
            sent = home.do_tick(dues)
            for key in sent:
                dues[key] = dues.get(key, 0) + 1
    rows = []
    for home in homes:
        inputs = [dues_below(ticks, belt, dues) for belt in home.inlets]
        rows.append(record_of(home, tuple(inputs)))
    return tuple(rows)


def dues_below(ticks, belt, dues):
    """The ticks below this one at which things are due, each as often as things are due."""
    return tuple(due for due in range(ticks) for _ in range(dues.get((belt, due), 0)))


def record_of(home, inputs):
    """The record of a house to which things came with these dues."""
    sent = []
    for belt in home.outlets:
        loads = [event[0] for events in home.rows for event in events if event[2:4] == ("load", belt)]
        sent.append(tuple(loads))
    return (inputs, tuple(home.rows), tuple(sent))


def renewed(elder, model, houses, tapes, records, ticks):
    """The records of a changed model, and how often each house was run for them."""
    links = links_of(model, houses)
    parts = house_models(model, houses)
    elders = house_models(elder, houses)
    present = list(records)
    counts = [0 for _ in parts]
    while True:
        fresh = {}
        for house, part in enumerate(parts):
            inputs = inputs_now(links, house, present, ticks)
            is_stale = part != elders[house] and counts[house] == 0
            if is_stale or inputs != present[house][0]:
                home = HouseRun(part, house, links, tapes)
                fresh[house] = run_with(home, inputs, ticks)
        if not fresh:
            return (tuple(present), tuple(counts))
        for house, record in fresh.items():
            present[house] = record
            counts[house] += 1


def inputs_now(links, house, present, ticks):
    """For each link into a house the dues that follow from the records of the others."""
    inputs = []
    for belt, length, source, goal in links:
        if goal == house:
            outlets = [link[0] for link in links if link[2] == source]
            loads = present[source][2][outlets.index(belt)]
            inputs.append(tuple(tick + length for tick in loads if tick + length < ticks))
    return tuple(inputs)


def run_with(home, inputs, ticks):
    """The record of a house at its beginning that is run with these dues."""
    dues = {}
    for belt, row in zip(home.inlets, inputs):
        for due in row:
            dues[(belt, due)] = dues.get((belt, due), 0) + 1
    for _ in range(ticks):
        home.do_tick(dues)
    return record_of(home, inputs)
