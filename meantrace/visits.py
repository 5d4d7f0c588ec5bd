"""How long processes wait and have units, and things are on belts, told from a trace."""


def visits(trace, resource, ticks):
    """The visits to the queue of a resource."""
    rows = []
    waiting = {}
    for event in trace:
        tick, process, word, name, _ = event
        if word == "ask" and name == resource:
            waiting[process] = len(rows)
            rows.append((process, tick, ticks, "open"))
        leaver = leaver_of(event, resource)
        if leaver in waiting:
            at = waiting.pop(leaver)
            rows[at] = (leaver, rows[at][1], tick, "broken" if word == "interrupt" else word)
    return tuple(rows)


def leaver_of(event, resource):
    """The process that leaves the queue of a resource by an event, if it is there; or None."""
    _, process, word, name, n = event
    if word in ("get", "leave") and name == resource:
        return process
    if word == "interrupt" and n == 1:
        return name
    return None


def stays(trace, resource, ticks):
    """The stays of processes that have a unit of a resource."""
    rows = []
    open_rows = {}
    for tick, process, word, name, _ in trace:
        if name == resource and word == "get":
            open_rows.setdefault(process, []).append(len(rows))
            rows.append((process, tick, ticks, "open"))
        elif name == resource and word == "give":
            at = open_rows[process].pop()
            rows[at] = (process, rows[at][1], tick, "give")
    return tuple(rows)


def rides(trace, belt, ticks):
    """The rides of things on a belt."""
    rows = []
    unloaded = 0
    for tick, _, word, name, _ in trace:
        if name == belt and word == "load":
            rows.append((tick, ticks, "open"))
        elif name == belt and word == "unload":
            rows[unloaded] = (rows[unloaded][0], tick, "unload")
            unloaded += 1
    return tuple(rows)


def overlap(rows, a, b):
    """How many ticks from a to b - 1 lie in visits, stays or rides, added up over all of them."""
    total = 0
    for row in rows:
        since, until = row[-3], row[-2]
        total += max(0, min(until, b) - max(since, a))
    return total
