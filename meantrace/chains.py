"""Chains: states with branches by digits."""

from meantrace.errors import Dry
from meantrace.tapes import is_complete

MOST_STATES = 200
MOST_BRANCHES = 100


def is_chain(chain):
    """Whether a tuple is a chain."""
    word, base, rows = chain
    if word != "chain" or not 2 <= base <= 6 or not 1 <= len(rows) <= MOST_STATES:
        return False
    return all([is_row(base, row, len(rows)) for row in rows])


def is_row(base, row, many):
    """Whether branches are those of a state in a chain of so many states."""
    if not 1 <= len(row) <= MOST_BRANCHES:
        return False
    if not all([is_shown(shown) and 0 <= target < many for _, shown, target in row]):
        return False
    tapes = tuple(digits for digits, _, _ in row)
    if not all([0 <= digit < base for digits in tapes for digit in digits]):
        return False
    if not all([tapes[at] < tapes[at + 1] for at in range(len(tapes) - 1)]):
        return False
    return is_complete(base, tapes)


def is_shown(shown):
    """Whether something is a tuple of strings."""
    return isinstance(shown, tuple) and all([isinstance(mark, str) for mark in shown])


def walk(chain, tape, ticks):
    """What is shown in so many ticks, the state at the end, and how many digits were read."""
    rows = chain[2]
    state = 0
    read = 0
    told = []
    for _ in range(ticks):
        digits, shown, state = branch_at(rows[state], tape, read)
        told.append(shown)
        read += len(digits)
    return (tuple(told), state, read)


def branch_at(row, tape, at):
    """The branch whose digits a tape has from here on."""
    for branch in row:
        if tape[at:at + len(branch[0])] == branch[0]:
            return branch
    raise Dry("tape")
