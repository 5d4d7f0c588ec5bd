"""The mean of what a copy scores, and of its square, tick by tick."""

from meantrace.plans import letter_of
from meantrace.shares import make_fraction, product_of
from meantrace.sums import denominator_of, times


class Moments:
    """For a copy at each state and stage the mean of its score and of the square of it.

    They are kept as integers: the means are to be divided by `unit`, the squares by its square.
    """

    def __init__(self, web, plan):
        self.below = denominator_of([share for row in web[1] for _, _, share in row])
        self.arcs = [[(told_by(plan, shown), target, times(share, self.below)) for shown, target, share in row]
                     for row in web[1]]
        lists = [[entries_of(plan, copies) for copies in row] for row in plan[5]]
        self.under = denominator_of([part for row in lists for told in row for entry in told for part in entry[:2]])
        self.lists = [[whole_entries(told, self.under) for told in row] for row in lists]
        self.unit = denominator_of(plan[4])
        self.worths = [times(score, self.unit) for score in plan[4]]
        self.means = [[0 for _ in plan[4]] for _ in web[1]]
        self.squares = [[0 for _ in plan[4]] for _ in web[1]]

    def go_back(self):
        """The moments for one tick more."""
        states = range(len(self.arcs))
        behind = [[[self.moments_behind(entries, state) for state in states] for entries in row] for row in self.lists]
        rows = []
        for arcs in self.arcs:
            rows.append([self.moments_of(arcs, worth, table) for worth, table in zip(self.worths, behind)])
        self.means = [[mean for mean, _ in row] for row in rows]
        self.squares = [[square for _, square in row] for row in rows]
        self.worths = [worth * self.under * self.below for worth in self.worths]
        self.unit = self.unit * self.under * self.below

    def moments_of(self, arcs, worth, table):
        """The moments of a copy ahead of a tick, by what it scores and a table of those behind it."""
        mean = 0
        square = 0
        score = worth * self.under
        for letter, target, share in arcs:
            first, second = (score, score * score) if letter is None else table[letter][target]
            mean += share * first
            square += share * second
        return (mean, square * self.below)

    def moments_behind(self, entries, target):
        """The moments of all copies together that are made in a tick and go on from a state.

        Behind the tick they go on apart from each other, so the mean of the product of two scores
        is the product of their means.
        """
        means = [once * self.means[target][to] for once, _, to in entries]
        squares = [twice * self.squares[target][to] for _, twice, to in entries]
        whole = sum(means)
        own = sum([mean * mean for mean in means])
        return (whole, whole * whole - own + self.under * sum(squares))


def told_by(plan, shown):
    """The letter of a shown, or None if the goal is in it."""
    return None if plan[2] in shown else letter_of(plan, shown)


def entries_of(plan, copies):
    """For each copy of a list by what its mean and its mean square are multiplied, and its stage."""
    entries = []
    for keep, factor, to in copies:
        once = product_of(make_fraction(keep, plan[1]), factor)
        entries.append((once, product_of(once, factor), to))
    return entries


def whole_entries(entries, under):
    """The same with integers, multiplied by a number."""
    return [(times(once, under), times(twice, under), to) for once, twice, to in entries]
