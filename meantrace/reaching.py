"""The chance that a mark is shown, within some ticks or at any time."""

from meantrace.distances import distances, turned
from meantrace.shares import is_less, product_of, total_of
from meantrace.solving import solved
from meantrace.sums import gathered, hit_sum, repeated


def reach_within(web, mark, n):
    """For each state the chance that a mark is shown in the first n ticks of a walk from there."""
    sums = [hit_sum(row, mark) for row in web[1]]
    return repeated(sums, tuple((0, 1) for _ in sums), n)


def reach(web, mark):
    """For each state the chance that a mark is ever shown, and in how few ticks it can be."""
    ranks = ranks_of(web[1], mark)
    return (values_of(web[1], mark, ranks), ranks)


def ranks_of(rows, mark):
    """For each state the least number of ticks in which a mark can be shown, or 0."""
    showing = [state for state, row in enumerate(rows) if shows(row, mark)]
    steps = distances(turned([[target for _, target, _ in row] for row in rows]), showing)
    return tuple(steps[state] + 1 if state in steps else 0 for state in range(len(rows)))


def shows(row, mark):
    """Whether an arc shows a mark."""
    return any([mark in shown for shown, _, _ in row])


def values_of(rows, mark, ranks):
    """For each state the chance that a mark is ever shown."""
    silent = [[target for shown, target, _ in row if mark not in shown] for row in rows]
    # All other states come to the mark whatever happens.
    unsure = distances(turned(silent), [state for state, rank in enumerate(ranks) if rank == 0])
    sums = {}
    for state in unsure:
        if ranks[state] > 0:
            constant, parts = unsure_sum(rows[state], mark, ranks, unsure)
            sums[state] = ((constant,), parts)
    found = solved(sums, 1)
    values = []
    for state, rank in enumerate(ranks):
        known = (0, 1) if rank == 0 else (1, 1)
        values.append(found[state][0] if state in found else known)
    return tuple(values)


def unsure_sum(row, mark, ranks, unsure):
    """The sum that the value of a state is, over states with values between 0 and 1."""
    terms = []
    for shown, target, share in row:
        if mark in shown or target not in unsure:
            terms.append((None, share))
        elif ranks[target] > 0:
            terms.append((target, share))
    return gathered(terms)


def judge_reach(web, mark, paper):
    """Whether a paper tells the chance that a mark is ever shown."""
    values, ranks = paper
    rows = web[1]
    if len(values) != len(rows) or len(ranks) != len(rows):
        return False
    if not all([is_borne_out(row, mark, ranks, rank) for row, rank in zip(rows, ranks)]):
        return False
    return all([is_value(rows[state], mark, values, state, rank) for state, rank in enumerate(ranks)])


def is_borne_out(row, mark, ranks, rank):
    """Whether a rank is 0, or an arc shows the mark or leads to a lesser rank."""
    if rank <= 0:
        return rank == 0
    return any([mark in shown or 1 <= ranks[target] < rank for shown, target, _ in row])


def is_value(row, mark, values, state, rank):
    """Whether the value of a state is a share, 0 just with the rank 0, and the sum over its arcs."""
    value = values[state]
    if is_less(value, (0, 1)) or is_less((1, 1), value) or (value == (0, 1)) != (rank == 0):
        return False
    ahead = [(1, 1) if mark in shown else values[target] for shown, target, _ in row]
    return total_of([product_of(arc[2], worth) for arc, worth in zip(row, ahead)]) == value
