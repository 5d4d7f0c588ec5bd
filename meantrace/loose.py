"""Loose webs: simpler ones whose shares lie between bounds."""

from meantrace.chains import is_shown
from meantrace.lumps import shares_into
from meantrace.shares import greatest_of, is_less, least_of, make_fraction, total_of
from meantrace.sums import denominator_of, times

MOST_LOOSE = 60


def is_loose(loose):
    """Whether a tuple is a loose web."""
    word, rows = loose
    if word != "loose" or not 1 <= len(rows) <= MOST_LOOSE:
        return False
    return all([is_loose_row(row, len(rows)) for row in rows])


def is_loose_row(row, many):
    """Whether arcs are those of a state in a loose web of so many states."""
    if not all([is_shown(arc[0]) and 0 <= arc[1] < many and is_range(arc[2], arc[3]) for arc in row]):
        return False
    if not all([row[at][:2] < row[at + 1][:2] for at in range(len(row) - 1)]):
        return False
    least, most = total_of([arc[2] for arc in row]), total_of([arc[3] for arc in row])
    return not is_less((1, 1), least) and not is_less(most, (1, 1))


def is_range(least, greatest):
    """Whether both are shares, in order."""
    return not is_less(least, (0, 1)) and not is_less(greatest, least) and not is_less((1, 1), greatest)


def bounds(loose, goal, n):
    """For each state the least and the greatest chance that the goal is shown within n ticks."""
    below = denominator_of([share for row in loose[1] for arc in row for share in arc[2:]])
    rows = [whole_arcs(row, goal, below) for row in loose[1]]
    low = [0 for _ in rows]
    high = [0 for _ in rows]
    unit = 1
    for _ in range(n):
        low = [share_out(sorted(choices(row, low, unit)), below) for row in rows]
        high = [share_out(sorted(choices(row, high, unit), reverse=True), below) for row in rows]
        unit = unit * below
    return tuple((make_fraction(least, unit), make_fraction(most, unit)) for least, most in zip(low, high))


def whole_arcs(row, goal, below):
    """For each arc its next, None if it shows the goal, and its least and greatest share as integers."""
    return [
        (None if goal in shown else target, times(least, below), times(most, below))
        for shown, target, least, most in row
    ]


def choices(row, values, unit):
    """For each arc the value that it leads to, and its least and greatest share."""
    return [(unit if target is None else values[target], least, most) for target, least, most in row]


def share_out(arcs, whole):
    """The sum of values times shares that are chosen: the arcs that come first have as much as they can."""
    left = whole - sum([least for _, least, _ in arcs])
    total = 0
    for value, least, most in arcs:
        more = min(left, most - least)
        total += value * (least + more)
        left -= more
    return total


def loosen(web, groups):
    """The loose web of the groups."""
    rows = []
    for group in range(max(groups) + 1):
        rows.append(loose_arcs([shares_into(row, groups) for row, own in zip(web[1], groups) if own == group]))
    return ("loose", tuple(rows))


def loose_arcs(states):
    """The arcs of a group of states, for each of which the shares of its arcs are told."""
    heads = sorted({head for shares in states for head in shares})
    arcs = []
    for head in heads:
        found = [shares.get(head, (0, 1)) for shares in states]
        arcs.append((*head, least_of(found), greatest_of(found)))
    return tuple(arcs)


def judge_within(web, loose, places):
    """Whether each state of a web keeps to the bounds of its place in a loose web."""
    rows = loose[1]
    if len(places) != len(web[1]) or places[0] != 0 or not all([0 <= place < len(rows) for place in places]):
        return False
    return all([keeps_to(shares_into(row, places), rows[place]) for row, place in zip(web[1], places)])


def keeps_to(shares, arcs):
    """Whether the shares of a state lie between the bounds of arcs, and there are no others."""
    for shown, target, least, most in arcs:
        share = shares.get((shown, target), (0, 1))
        if is_less(share, least) or is_less(most, share):
            return False
    heads = [arc[:2] for arc in arcs]
    return all([head in heads for head in shares])
