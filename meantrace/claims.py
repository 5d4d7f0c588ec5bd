"""Claims that hold for all tapes, or are broken by a walk."""

from meantrace.blocks import branches_along
from meantrace.watches import Watcher, place_behind


def decide(chain, watch):
    """Either that a claim holds, with all pairs of states, or the least of the shortest walks that break it."""
    bad = watch[2]
    if 0 in bad:
        return ("breaks", ())
    # Pairs are met in the order of the least walks to them: by the ticks, then by the blocks.
    walks = {(0, 0): ()}
    layer = [(0, 0)]
    while layer:
        further = []
        for state, place in layer:
            for digits, shown, target in chain[2][state]:
                pair = (target, place_behind(watch, place, shown))
                if pair in walks:
                    continue
                walks[pair] = (*walks[(state, place)], digits)
                if pair[1] in bad:
                    return ("breaks", walks[pair])
                further.append(pair)
        layer = further
    return ("holds", tuple(sorted(list(walks))))


def judge_holds(chain, watch, pairs):
    """Whether pairs of states show that a claim holds."""
    known = {pair: True for pair in pairs}
    if (0, 0) not in known:
        return False
    for state, place in known:
        if not 0 <= state < len(chain[2]) or not 0 <= place < len(watch[1]) or place in watch[2]:
            return False
        for _, shown, target in chain[2][state]:
            if (target, place_behind(watch, place, shown)) not in known:
                return False
    return True


def judge_breaks(chain, watch, blocks):
    """Whether blocks are those of a walk that breaks a claim."""
    branches = branches_along(chain[2], 0, blocks)
    if branches is None:
        return False
    watcher = Watcher(watch)
    for branch in branches:
        watcher(branch[1])
    return watcher.broken
