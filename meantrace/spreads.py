"""What two walks on common or opposite digits show."""

from meantrace.pairs import pair_chain
from meantrace.reaching import reach_within
from meantrace.shares import difference_of, product_of, sum_of
from meantrace.webs import web_of


def both(left, right, flip, goal, n):
    """The chances that the goal is shown by neither, by the left alone, by the right alone, by both."""
    web = web_of(pair_chain(left, right, flip))
    ours = reach_within(web, "l." + goal, n)[0]
    theirs = reach_within(web, "r." + goal, n)[0]
    either = reach_within(either_web(web, ("l." + goal, "r." + goal)), "", n)[0]
    none = difference_of((1, 1), either)
    two = difference_of(sum_of(ours, theirs), either)
    return (none, difference_of(either, theirs), difference_of(either, ours), two)


def either_web(web, marks):
    """The arcs of a web, which show the mark without characters if they show one of these marks."""
    rows = []
    for row in web[1]:
        told = [any([mark in shown for mark in marks]) for shown, _, _ in row]
        rows.append(tuple((("",) if hit else (), arc[1], arc[2]) for arc, hit in zip(row, told)))
    return ("web", tuple(rows))


def spreads(left, right, flip, goal, n):
    """The mean and the spread of (X + Y) / 2, and the spread of X - Y."""
    _, one, other, two = both(left, right, flip, goal, n)
    single = sum_of(one, other)
    mean = sum_of(product_of(single, (1, 2)), two)
    square = sum_of(product_of(single, (1, 4)), two)
    apart = difference_of(one, other)
    return (mean, spread_around(mean, square), spread_around(apart, single))


def spread_around(mean, square):
    """The spread of something with this mean and this mean of its square."""
    return difference_of(square, product_of(mean, mean))
