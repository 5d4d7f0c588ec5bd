"""Marks that are shown on every walk, and how late."""

from meantrace.blocks import ring_along, ring_of
from meantrace.distances import longest


def latest(chain, mark):
    """Either that a mark is sure, and how late it is shown, or a way and a ring that avoid it."""
    rows = chain[2]
    silent = [[branch for branch in row if mark not in branch[1]] for row in rows]
    ranks = longest([[branch[2] for branch in row] for row in silent])
    if ranks[0] > 0:
        return ("sure", tuple(ranks))
    picked = {}
    for state, row in enumerate(silent):
        if ranks[state] == 0:
            picked[state] = [branch for branch in row if ranks[branch[2]] == 0][0]
    return ("ring", *ring_of(picked, 0))


def judge_ranks(chain, mark, ranks):
    """Whether ranks show that a mark is sure."""
    rows = chain[2]
    if len(ranks) != len(rows) or not all([rank >= 0 for rank in ranks]) or ranks[0] == 0:
        return False
    return all([rank == 0 or is_sure(row, mark, ranks, rank) for row, rank in zip(rows, ranks)])


def is_sure(row, mark, ranks, rank):
    """Whether each branch shows the mark or leads to a lesser rank."""
    return all([mark in shown or 1 <= ranks[target] < rank for _, shown, target in row])


def judge_ring(chain, mark, paper):
    """Whether a way and a ring avoid a mark."""
    way, ring = paper
    walked = ring_along(chain[2], way, ring)
    if walked is None:
        return False
    return not any([mark in branch[1] for part in walked for branch in part])
