"""Bends that miss a goal, and those that score its chance in each walk."""

from math import gcd

from meantrace.bends import bent_mean
from meantrace.distances import distances
from meantrace.reaching import ranks_of, reach, reach_within
from meantrace.shares import difference_of, product_of
from meantrace.sums import denominator_of, times


def gap(web, bend, goal):
    """The least number of tickets for which a bend misses the goal, and what is missing, or None."""
    n = first_missing(web[1], bend, goal)
    if n is None:
        return None
    return (n, difference_of(reach_within(web, goal, n)[0], bent_mean(web, bend, goal, n)))


def first_missing(rows, bend, goal):
    """The least number of ticks of a walk that shows the goal along an arc with the integer 0, or None."""
    onward = [[arc[1] for arc, number in zip(row, numbers) if number > 0 and goal not in arc[0]]
              for row, numbers in zip(rows, bend)]
    ranks = ranks_of(rows, goal)
    found = []
    for state, ticks in distances(onward, [0]).items():
        for arc, number in zip(rows[state], bend[state]):
            if number == 0 and goal in arc[0]:
                found.append(ticks + 1)
            elif number == 0 and ranks[arc[1]] > 0:
                found.append(ticks + 1 + ranks[arc[1]])
    return min(found, default=None)


def best_bend(web, goal):
    """The bend by which each walk that shows the goal scores the value of state 0."""
    values = reach(web, goal)[0]
    rows = []
    for row in web[1]:
        ahead = [(1, 1) if goal in shown else values[target] for shown, target, _ in row]
        rows.append(least_integers([product_of(arc[2], value) for arc, value in zip(row, ahead)]))
    return tuple(rows)


def least_integers(fractions):
    """The least integers that stand to each other as fractions from 0 on; all 1 if all are 0."""
    below = denominator_of(fractions)
    numbers = [times(fraction, below) for fraction in fractions]
    common = 0
    for number in numbers:
        common = gcd(common, number)
    if common == 0:
        return tuple(1 for _ in numbers)
    return tuple(number // common for number in numbers)
