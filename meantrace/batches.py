"""Batches of values, the spread within and between them, and how long values warm up."""

from meantrace.shares import difference_of, make_fraction, product_of, total_of
from meantrace.tallies import mean_of, spread_of, tally_of


def batches(values, length):
    """The tallies of the first so many values, of the next ones, and so on."""
    many = len(values) // length
    return tuple(tally_of(values[at * length:(at + 1) * length]) for at in range(many))


def spread_within(tallies):
    """The mean of the spreads of the tallies, each by how many values it has."""
    many = sum([tally[0] for tally in tallies])
    return total_of([product_of(make_fraction(tally[0], many), spread_of(tally)) for tally in tallies])


def spread_between(tallies):
    """The mean of the squared distances of the means of the tallies to the mean of all."""
    many = sum([tally[0] for tally in tallies])
    mean = make_fraction(sum([tally[1] for tally in tallies]), many)
    parts = []
    for tally in tallies:
        distance = difference_of(mean_of(tally), mean)
        parts.append(product_of(make_fraction(tally[0], many), product_of(distance, distance)))
    return total_of(parts)


def warm_up(values):
    """The least number of values to leave out for which the mean of the rest is surest."""
    many, total, squares = tally_of(values)[:3]
    found = 0
    best = None
    for a in range(len(values) // 2 + 1):
        # The squared differences of n values from their mean have the sum squares - total ** 2 / n.
        error = (squares * many - total * total, many ** 3)
        if best is None or error[0] * best[1] < best[0] * error[1]:
            found = a
            best = error
        many -= 1
        total -= values[a]
        squares -= values[a] * values[a]
    return found
