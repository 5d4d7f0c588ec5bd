"""Equations with integers: dicts from columns to numbers other than 0."""

from math import gcd

from meantrace.sums import denominator_of, times


def whole_row(fractions):
    """A dict of fractions as an equation: all of them multiplied by the same number."""
    below = denominator_of(list(fractions.values()))
    return lessened({column: times(fraction, below) for column, fraction in fractions.items()})


def lessened(row):
    """An equation without zeros, divided by what divides all of its numbers."""
    common = 0
    for number in row.values():
        common = gcd(common, number)
        if common == 1:
            break
    return {column: number // common for column, number in row.items() if number != 0}


def without(row, pivot, column):
    """An equation from which a column is gone, by a multiple of another equation that has it."""
    common = gcd(row[column], pivot[column])
    up = pivot[column] // common
    down = row[column] // common
    mixed = {place: number * up for place, number in row.items()}
    for place, number in pivot.items():
        mixed[place] = mixed.get(place, 0) - number * down
    return lessened(mixed)
