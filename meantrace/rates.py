"""What the marks of walks are worth at least and at most, in some ticks and in the long run."""

from meantrace.blocks import ring_along, ring_of, way_to
from meantrace.distances import distances, longest
from meantrace.gains import worth_of
from meantrace.shares import greatest_of, is_less, least_of, make_fraction, product_of, sum_of


def greatest(chain, worths, n):
    """The least and the greatest sum of the worths of the shown over n ticks."""
    rows = worth_rows(chain, worths)
    least = [0 for _ in rows]
    most = [0 for _ in rows]
    for _ in range(n):
        least = [min([worth + least[target] for worth, target in row]) for row in rows]
        most = [max([worth + most[target] for worth, target in row]) for row in rows]
    return (least[0], most[0])


def worth_rows(chain, worths):
    """For each branch of each state the worth of its shown, and its next."""
    return [[(worth_of(worths, shown), target) for _, shown, target in row] for row in chain[2]]


def rate(chain, worths):
    """The greatest worth per tick in the long run, potentials that bound it, a way and a ring that have it."""
    rows = worth_rows(chain, worths)
    reached = distances([[target for _, target in row] for row in rows], [0])
    speed = greatest_mean(rows, len(reached))
    # With the rate taken off each tick no ring is worth more than 0.
    below = speed[1]
    spare = [[(worth * below - speed[0], target) for worth, target in row] for row in rows]
    heights = heights_of(spare, list(reached))
    potentials = [None for _ in rows]
    for state in reached:
        potentials[state] = make_fraction(heights[state], below)
    tight = [tight_branches(branches, row, heights, state) if state in reached else []
             for state, (branches, row) in enumerate(zip(chain[2], spare))]
    way, ring = best_ring(chain[2], tight, list(reached))
    return (speed, tuple(potentials), way, ring)


def greatest_mean(rows, many):
    """The greatest mean worth of a ring among the so many states that walks come to.

    It is told by the greatest worths of walks of exactly k ticks, for all k up to the number of
    states: from one of them with the most ticks a ring can be taken off.
    """
    levels = [{0: 0}]
    for _ in range(many):
        level = {}
        for state, best in levels[-1].items():
            for worth, target in rows[state]:
                level[target] = max(level.get(target, best + worth), best + worth)
        levels.append(level)
    means = []
    for state, best in levels[many].items():
        known = [k for k in range(many) if state in levels[k]]
        means.append(least_of([make_fraction(best - levels[k][state], many - k) for k in known]))
    return greatest_of(means)


def heights_of(rows, states):
    """For each state the greatest worth of a walk from there, of any number of ticks."""
    heights = {state: 0 for state in states}
    changed = True
    while changed:
        higher = {}
        for state in states:
            higher[state] = max([heights[state], *[worth + heights[target] for worth, target in rows[state]]])
        changed = higher != heights
        heights = higher
    return heights


def tight_branches(branches, row, heights, state):
    """The branches along which nothing of the height of a state is lost."""
    return [branch for branch, (worth, target) in zip(branches, row) if worth + heights[target] == heights[state]]


def best_ring(rows, tight, states):
    """A way and a ring along tight branches."""
    ranks = longest([[branch[2] for branch in row] for row in tight])
    picked = {}
    for state in states:
        if ranks[state] == 0:
            picked[state] = [branch for branch in tight[state] if ranks[branch[2]] == 0][0]
    begin = min(list(picked))
    way, ring = ring_of(picked, begin)
    return ((*way_to(rows, begin), *way), ring)


def judge_rate(chain, worths, paper):
    """Whether a paper bounds the worth per tick and shows a walk that has it."""
    speed, potentials, way, ring = paper
    rows = worth_rows(chain, worths)
    if len(potentials) != len(rows) or potentials[0] is None:
        return False
    for row, potential in zip(rows, potentials):
        if potential is not None and not is_bound(row, speed, potentials, potential):
            return False
    walked = ring_along(chain[2], way, ring)
    if walked is None:
        return False
    total = sum([worth_of(worths, branch[1]) for branch in walked[1]])
    return product_of(speed, (len(ring), 1)) == (total, 1)


def is_bound(row, speed, potentials, potential):
    """Whether no branch has more than the rate, with the potentials on both sides."""
    most = sum_of(speed, potential)
    for worth, target in row:
        ahead = potentials[target]
        if ahead is None or is_less(most, sum_of((worth, 1), ahead)):
            return False
    return True
