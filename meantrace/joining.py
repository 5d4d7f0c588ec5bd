"""Events of several houses in one tick as the plain run has them."""

from meantrace.layouts import numbers_of


def join_events(model, rows):
    """The joined events: of the next ones of all houses that of the least process comes first."""
    numbers = numbers_of([process[1] for process in model[4]])
    places = [0 for _ in rows]
    events = []
    for _ in range(sum([len(row) for row in rows])):
        heads = []
        for house, row in enumerate(rows):
            if places[house] < len(row):
                heads.append((numbers[row[places[house]][1]], house))
        _, house = min(heads)
        events.append(rows[house][places[house]])
        places[house] += 1
    return tuple(events)
