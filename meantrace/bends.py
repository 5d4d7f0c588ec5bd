"""Walks of a web with other chances, and by what they are weighed."""

from meantrace.errors import BadNumber
from meantrace.shares import make_fraction, product_of, quotient_of
from meantrace.sums import hit_sum, repeated


def is_bend(web, bend):
    """Whether a tuple of tuples of integers is a bend of a web."""
    if len(bend) != len(web[1]):
        return False
    return all([is_bent(row, numbers) for row, numbers in zip(web[1], bend)])


def is_bent(row, numbers):
    """Whether there is an integer from 0 on for each arc, not all of them 0."""
    if len(numbers) != len(row) or not all([number >= 0 for number in numbers]):
        return False
    return sum(numbers) > 0


def bent_web(web, bend):
    """The web with the bent shares."""
    rows = []
    for row, numbers in zip(web[1], bend):
        rows.append(tuple((shown, target, bent) for shown, target, _, bent in bent_arcs(row, numbers)))
    return ("web", tuple(rows))


def bent_arcs(row, numbers):
    """The arcs of a state whose integer is not 0, with their shares and bent shares."""
    total = sum(numbers)
    return [(*arc, make_fraction(number, total)) for arc, number in zip(row, numbers) if number > 0]


def bent_walk(web, bend, goal, tickets):
    """The score of a walk with the bent shares, and how many of the tickets it used."""
    state = 0
    weight = (1, 1)
    for used, ticket in enumerate(tickets):
        numbers = bend[state]
        if not 0 <= ticket < sum(numbers):
            raise BadNumber(ticket)
        at = arc_at(numbers, ticket)
        shown, target, share = web[1][state][at]
        weight = product_of(weight, quotient_of(share, make_fraction(numbers[at], sum(numbers))))
        if goal in shown:
            return (weight, used + 1)
        state = target
    return ((0, 1), len(tickets))


def arc_at(numbers, ticket):
    """The number of the first arc up to which the sum of the integers is greater than a ticket."""
    at = 0
    above = numbers[0]
    while above <= ticket:
        at += 1
        above += numbers[at]
    return at


def bent_mean(web, bend, goal, n):
    """The mean of the score of walks of n tickets."""
    rows = []
    for row, numbers in zip(web[1], bend):
        # The bent share times the factor is the share again.
        rows.append([arc[:3] for arc in bent_arcs(row, numbers)])
    return mean_from_start(rows, goal, n)


def bent_square(web, bend, goal, n):
    """The mean of the square of the score of walks of n tickets."""
    rows = []
    for row, numbers in zip(web[1], bend):
        told = []
        for shown, target, share, bent in bent_arcs(row, numbers):
            told.append((shown, target, product_of(share, quotient_of(share, bent))))
        rows.append(told)
    return mean_from_start(rows, goal, n)


def mean_from_start(rows, goal, n):
    """What comes of n ticks from state 0, each walk to the goal weighed by the product of its arcs."""
    sums = [hit_sum(row, goal) for row in rows]
    return repeated(sums, tuple((0, 1) for _ in sums), n)[0]
