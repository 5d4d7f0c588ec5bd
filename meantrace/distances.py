"""How many steps lead from some states to others."""


def distances(nexts, begins):
    """For each state that can be come to, the least number of steps from one of the begins."""
    found = {state: 0 for state in begins}
    layer = list(found)
    while layer:
        further = []
        for state in layer:
            for target in nexts[state]:
                if target not in found:
                    found[target] = found[state] + 1
                    further.append(target)
        layer = further
    return found


def turned(nexts):
    """For each state those from which a step leads to it."""
    sources = [[] for _ in nexts]
    for state, targets in enumerate(nexts):
        for target in targets:
            sources[target].append(state)
    return sources


def longest(nexts):
    """For each state how many states the longest walk from there has, 0 if it need not end."""
    found = [0 for _ in nexts]
    many = 0
    fresh = list(range(len(nexts)))
    while fresh:
        many += 1
        fresh = [
            state for state, targets in enumerate(nexts)
            if found[state] == 0 and all([found[target] > 0 for target in targets])
        ]
        for state in fresh:
            found[state] = many
    return found
