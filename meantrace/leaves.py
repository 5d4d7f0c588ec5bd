"""All walks of a chain."""

from meantrace.errors import TooMany

MOST_LEAVES = 4000


def tree(chain, n):
    """The leaves of the tree of a chain for n ticks."""
    rows = chain[2]
    leaves = [((), (), 0)]
    for _ in range(n):
        grown = []
        for digits, told, state in leaves:
            for more, shown, target in rows[state]:
                grown.append(((*digits, *more), (*told, shown), target))
            # Each walk of fewer ticks is the beginning of one leaf at least.
            if len(grown) > MOST_LEAVES:
                raise TooMany("leaves")
        leaves = grown
    return tuple(leaves)
