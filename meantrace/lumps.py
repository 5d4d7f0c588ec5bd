"""States of a web that can stand for each other."""

from meantrace.shares import sum_of


def shares_into(row, groups):
    """For each shown and group the sum of the shares of the arcs with this shown into this group."""
    shares = {}
    for shown, target, share in row:
        head = (shown, groups[target])
        shares[head] = sum_of(shares.get(head, (0, 1)), share)
    return shares


def arcs_into(row, groups):
    """The same as arcs, ascending."""
    shares = shares_into(row, groups)
    return tuple((*head, shares[head]) for head in sorted(list(shares)))


def numbered(keys):
    """A grouping that has the same group just for the same key."""
    numbers = {}
    groups = []
    for key in keys:
        numbers[key] = numbers.get(key, len(numbers))
        groups.append(numbers[key])
    return tuple(groups)


def finer(web, groups):
    """The grouping that keeps two states together if they agree over a grouping."""
    return numbered([(group, arcs_into(row, groups)) for row, group in zip(web[1], groups)])


def rounds(web):
    """Groupings, each finer than the one ahead, up to the first one over which its groups agree."""
    groups = tuple(0 for _ in web[1])
    found = [groups]
    ahead = finer(web, groups)
    while ahead != groups:
        groups = ahead
        found.append(groups)
        ahead = finer(web, groups)
    return tuple(found)


def lumps(web):
    """The grouping with the fewest groups whose states agree over it."""
    return rounds(web)[-1]


def judge_lumps(web, groups):
    """Whether a grouping is numbered as told, and the states of each group agree over it."""
    # A finer grouping is always numbered as told.
    return len(groups) == len(web[1]) and finer(web, groups) == groups


def lumped(web, groups):
    """The web of the groups."""
    rows = []
    for row, group in zip(web[1], groups):
        if group == len(rows):
            rows.append(arcs_into(row, groups))
    return ("web", tuple(rows))
