"""Pairs of chains that walk on common or on opposite digits."""

from meantrace.chains import MOST_BRANCHES
from meantrace.errors import BadNumber, TooMany
from meantrace.exploring import explored
from meantrace.tapes import opposite


def pair_chain(left, right, flip):
    """The chain of a pair of chains."""
    return ("chain", left[1], explored_pairs(left, right, flip)[1])


def pairs_of(left, right, flip):
    """The pairs of states in the order of their numbers."""
    return explored_pairs(left, right, flip)[0]


def explored_pairs(left, right, flip):
    """The pairs that can be come to, and the branches of each."""
    base = left[1]
    if right[1] != base:
        raise BadNumber(right[1])
    ours = [[told_branch("l.", branch) for branch in row] for row in left[2]]
    theirs = [[told_branch("r.", branch) for branch in row] for row in right[2]]
    if flip == 1:
        theirs = [[(opposite(base, digits), shown, target) for digits, shown, target in row] for row in theirs]

    def branches_of(pair):
        """The branches of a pair."""
        return common_branches(ours[pair[0]], theirs[pair[1]])
    return explored((0, 0), branches_of)


def told_branch(sign, branch):
    """A branch with a sign ahead of each of its marks."""
    digits, shown, target = branch
    return (digits, tuple(sign + mark for mark in shown), target)


def common_branches(ours, theirs):
    """What both can do on the same digits, ascending by digits."""
    found = []
    for digits, shown, target in ours:
        for others, told, end in theirs:
            if begins(digits, others) or begins(others, digits):
                longer = digits if len(digits) > len(others) else others
                found.append((longer, (*shown, *told), (target, end)))
    if len(found) > MOST_BRANCHES:
        raise TooMany("ways")
    return sorted(found)


def begins(tape, ahead):
    """Whether a tape begins with another one."""
    return tape[:len(ahead)] == ahead
