"""What the marks of walks are worth: in some ticks, and per tick in the long run."""

from meantrace.distances import distances, turned
from meantrace.errors import Parted
from meantrace.shares import difference_of, product_of, quotient_of, sum_of, total_of
from meantrace.solving import solved
from meantrace.sums import gathered, repeated


def worth_of(worths, shown):
    """The worth of a shown."""
    table = dict(worths)
    return sum([table.get(mark, 0) for mark in shown])


def shares_after(web, state, n):
    """For each state the chance to be there after n ticks of a walk from a state."""
    terms = [[] for _ in web[1]]
    for source, row in enumerate(web[1]):
        for _, target, share in row:
            terms[target].append((source, share))
    begin = tuple((1, 1) if place == state else (0, 1) for place in range(len(terms)))
    return repeated([gathered(row) for row in terms], begin, n)


def means(web, worths, n):
    """For each state the mean of what is shown in the first n ticks of a walk from there."""
    sums = [worth_sum(row, worths) for row in web[1]]
    return repeated(sums, tuple((0, 1) for _ in sums), n)


def worth_sum(row, worths):
    """The mean worth of what is shown, over what comes from the next states on."""
    terms = [(None, product_of(share, (worth_of(worths, shown), 1))) for shown, _, share in row]
    terms.extend([(target, share) for _, target, share in row])
    return gathered(terms)


def gain(web, worths):
    """The worth per tick in the long run, and the potentials of the states."""
    classes = closed_classes(web[1])
    if len(classes) > 1:
        raise Parted(classes[0], classes[1])
    sums = [worth_sum(row, worths) for row in web[1]]
    rate, potentials = gain_at(sums, classes[0])
    return (rate, tuple(difference_of(potential, potentials[0]) for potential in potentials))


def closed_classes(rows):
    """The least states of the closed classes, ascending."""
    nexts = [[target for _, target, _ in row] for row in rows]
    sources = turned(nexts)
    least = []
    for state in range(len(rows)):
        onward = distances(nexts, [state])
        back = distances(sources, [state])
        if min(list(onward)) == state and all([target in back for target in onward]):
            least.append(state)
    return least


def gain_at(sums, fixed):
    """The rate, and potentials with 0 for a state to which walks come from everywhere.

    The other potentials are sums of a fraction and a multiple of the rate, which is not known yet.
    """
    open_sums = {}
    for state, (constant, parts) in enumerate(sums):
        if state != fixed:
            known = {target: share for target, share in parts.items() if target != fixed}
            open_sums[state] = ((constant, (-1, 1)), known)
    found = solved(open_sums, 2)
    found[fixed] = ((0, 1), (0, 1))
    constant, parts = sums[fixed]
    plain = total_of([product_of(share, found[target][0]) for target, share in parts.items()])
    bound = total_of([product_of(share, found[target][1]) for target, share in parts.items()])
    rate = quotient_of(sum_of(constant, plain), difference_of((1, 1), bound))
    rows = [found[state] for state in range(len(sums))]
    return (rate, [sum_of(here, product_of(rate, multiple)) for here, multiple in rows])


def judge_gain(web, worths, paper):
    """Whether a paper tells the rate and potentials that fit."""
    rate, potentials = paper
    if len(potentials) != len(web[1]) or potentials[0] != (0, 1):
        return False
    for row, potential in zip(web[1], potentials):
        constant, parts = worth_sum(row, worths)
        ahead = total_of([product_of(share, potentials[target]) for target, share in parts.items()])
        if sum_of(constant, ahead) != sum_of(rate, potential):
            return False
    return True
