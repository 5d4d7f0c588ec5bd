"""Tapes of digits: their weights, their opposites, and sets of them that are complete."""


def weight(base, tape):
    """The weight of a tape."""
    below = 1
    for _ in tape:
        below = below * base
    return (1, below)


def opposite(base, tape):
    """The tape of the opposite digits."""
    return tuple(base - 1 - digit for digit in tape)


def is_complete(base, tapes):
    """Whether every tape that is long enough begins with exactly one of these tapes."""
    if not tapes:
        return False
    rows = sorted(tapes)
    if not all([digit == 0 for digit in rows[0]]):
        return False
    if not all([digit == base - 1 for digit in rows[-1]]):
        return False
    return all([is_next(base, rows[at], rows[at + 1]) for at in range(len(rows) - 1)])


def is_next(base, tape, other):
    """Whether in order nothing is left out and nothing stands twice between two tapes.

    All tapes behind those that begin with the first one begin with that one after its last digit
    that can be more is one more; the second one has to go on from there with zeros only.
    """
    keep = len(tape)
    while keep > 0 and tape[keep - 1] == base - 1:
        keep -= 1
    if keep == 0:
        return False
    ahead = (*tape[:keep - 1], tape[keep - 1] + 1)
    return other[:keep] == ahead and all([digit == 0 for digit in other[keep:]])
