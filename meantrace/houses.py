"""Models that are cut into houses."""

from meantrace.bodies import names_in, statements_in
from meantrace.errors import Split


def house_models(model, houses):
    """The models of the houses."""
    check_houses(model, houses)
    _, base, streams, items, processes = model
    parts = []
    for house in range(max(houses) + 1):
        own = tuple(process for number, process in enumerate(processes) if houses[number] == house)
        parts.append(("model", base, streams, items, own))
    return tuple(parts)


def links_of(model, houses):
    """The links between the houses."""
    check_houses(model, houses)
    uses = uses_of(model, houses)
    links = []
    for item in model[3]:
        if is_shared(uses[item[1]]):
            loading = [house for word, house in uses[item[1]] if word == "load"]
            unloading = [house for word, house in uses[item[1]] if word == "unload"]
            links.append((item[1], item[2], loading[0], unloading[0]))
    return tuple(links)


def check_houses(model, houses):
    """The first stream, item or process that breaks a rule is told."""
    uses = uses_of(model, houses)
    for stream in model[2]:
        if is_shared(uses[stream]):
            raise Split(stream)
    for item in model[3]:
        if is_shared(uses[item[1]]) and not is_link(item, uses[item[1]]):
            raise Split(item[1])
    for number, process in enumerate(model[4]):
        if breaks_rule(process, houses[number], uses[process[1]], max(houses) + 1):
            raise Split(process[1])


def uses_of(model, houses):
    """For each stream, item and process the words and houses of the statements that name it."""
    names = [*model[2], *[item[1] for item in model[3]], *[process[1] for process in model[4]]]
    uses = {name: [] for name in names}
    for number, process in enumerate(model[4]):
        for statement in statements_in((process,)):
            for name in names_in(statement):
                uses[name].append((statement[0], houses[number]))
    return uses


def is_shared(rows):
    """Whether pairs of a word and a house tell several houses."""
    return len({house for _, house in rows}) > 1


def is_link(item, rows):
    """Whether an item that is named in several houses can lead from one to the other."""
    if item[0] != "belt" or item[3] is not None:
        return False
    loading = [row for row in rows if row[0] == "load"]
    unloading = [row for row in rows if row[0] == "unload"]
    if len(loading) + len(unloading) < len(rows):
        return False
    # Since there are several houses, one of them loads then and another one unloads.
    return not is_shared(loading) and not is_shared(unloading)


def breaks_rule(process, house, rows, many):
    """Whether a process is interrupted from another house, or ends a run of several houses."""
    if any([other != house for _, other in rows]):
        return True
    return many > 1 and ("end",) in statements_in((process,))
