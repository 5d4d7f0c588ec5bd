"""Webs: states with arcs by chance."""

from meantrace.chains import MOST_STATES, is_shown
from meantrace.shares import is_less, sum_of, total_of
from meantrace.tapes import weight


def is_web(web):
    """Whether a tuple is a web."""
    word, rows = web
    if word != "web" or not 1 <= len(rows) <= MOST_STATES:
        return False
    return all([is_row_of_arcs(row, len(rows)) for row in rows])


def is_row_of_arcs(row, many):
    """Whether arcs are those of a state in a web of so many states."""
    if not all([is_shown(shown) and 0 <= target < many for shown, target, _ in row]):
        return False
    if not all([row[at][:2] < row[at + 1][:2] for at in range(len(row) - 1)]):
        return False
    shares = [share for _, _, share in row]
    return all([is_less((0, 1), share) for share in shares]) and total_of(shares) == (1, 1)


def web_of(chain):
    """The web of a chain."""
    _, base, rows = chain
    return ("web", tuple(arcs_of(base, row) for row in rows))


def arcs_of(base, row):
    """The arcs of a state that has these branches."""
    shares = {}
    for digits, shown, target in row:
        share = shares.get((shown, target), (0, 1))
        shares[(shown, target)] = sum_of(share, weight(base, digits))
    return tuple((*head, shares[head]) for head in sorted(list(shares)))
