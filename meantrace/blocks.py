"""Walks that are told by blocks: the digits of one branch after the other."""

from meantrace.distances import distances, turned


def branches_along(rows, state, blocks):
    """The branches of a walk from a state, or None if a block is not the digits of a branch."""
    found = []
    for block in blocks:
        fitting = [branch for branch in rows[state] if branch[0] == block]
        if not fitting:
            return None
        found.append(fitting[0])
        state = fitting[0][2]
    return found


def ring_along(rows, way, ring):
    """The branches of a way from state 0 and of a ring behind it, or None if they are not such."""
    there = branches_along(rows, 0, way)
    if there is None or not ring:
        return None
    begin = there[-1][2] if there else 0
    around = branches_along(rows, begin, ring)
    if around is None or around[-1][2] != begin:
        return None
    return (there, around)


def ring_of(picked, state):
    """The way and the ring of the walk that goes along the picked branch of each state."""
    places = {}
    blocks = []
    while state not in places:
        places[state] = len(blocks)
        digits, _, state = picked[state]
        blocks.append(digits)
    at = places[state]
    return (tuple(blocks[:at]), tuple(blocks[at:]))


def way_to(rows, goal):
    """The blocks of a shortest walk from state 0 to a state."""
    left = distances(turned([[target for _, _, target in row] for row in rows]), [goal])
    blocks = []
    state = 0
    while state != goal:
        nearer = [branch for branch in rows[state] if left.get(branch[2], left[state]) < left[state]]
        blocks.append(nearer[0][0])
        state = nearer[0][2]
    return tuple(blocks)
