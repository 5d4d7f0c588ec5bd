"""Tallies of values: how many, their sum, the sum of their squares, the least and the greatest."""

from meantrace.shares import difference_of, make_fraction, product_of


def tally_of(values):
    """The tally of some integers."""
    squares = sum([worth * worth for worth in values])
    least = min(values, default=None)
    greatest = max(values, default=None)
    return (len(values), sum(values), squares, least, greatest)


def joined(tally, other):
    """The tally of all values of two tallies."""
    sums = [tally[at] + other[at] for at in range(3)]
    ends = [row for row in (tally, other) if row[0] > 0]
    least = min([row[3] for row in ends], default=None)
    greatest = max([row[4] for row in ends], default=None)
    return (*sums, least, greatest)


def mean_of(tally):
    """The mean, or None for no values."""
    many, total = tally[:2]
    return make_fraction(total, many) if many > 0 else None


def spread_of(tally):
    """The mean of the squares less the square of the mean, or None for no values."""
    mean = mean_of(tally)
    if mean is None:
        return None
    return difference_of(make_fraction(tally[2], tally[0]), product_of(mean, mean))


def gauge_tally(frames, gauge, a, b):
    """The tally of the gauge with this number in the frames of the ticks a to b - 1."""
    return tally_of(tuple(frame[gauge] for frame in frames[a:b]))
