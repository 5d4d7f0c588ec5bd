"""Sums over states: a value of a state that is made of the values of others.

A sum is a pair of a fraction and a dict, which has for some states by what their values are
multiplied.
"""

from math import lcm

from meantrace.shares import make_fraction, sum_of


def gathered(terms):
    """The sum of terms (state, fraction); a fraction by itself has None for the state."""
    constant = (0, 1)
    parts = {}
    for state, fraction in terms:
        if state is None:
            constant = sum_of(constant, fraction)
        else:
            parts[state] = sum_of(parts.get(state, (0, 1)), fraction)
    return (constant, parts)


def hit_sum(row, mark):
    """The chance that a mark is shown, over the chances from the next states on."""
    return gathered([(None if mark in shown else target, share) for shown, target, share in row])


def repeated(sums, begin, n):
    """What the values of all states become if so often the sums take their place."""
    # One denominator for all values spares finding lowest terms in each tick.
    below = denominator_of([fraction for constant, parts in sums for fraction in (constant, *list(parts.values()))])
    rows = [(times(constant, below), times_parts(parts, below)) for constant, parts in sums]
    under = denominator_of(begin)
    values = [times(value, under) for value in begin]
    for _ in range(n):
        values = [
            constant * under + sum([number * values[state] for state, number in parts])
            for constant, parts in rows
        ]
        under = under * below
    return tuple(make_fraction(value, under) for value in values)


def denominator_of(fractions):
    """The least number of which all denominators are divisors."""
    below = 1
    for fraction in fractions:
        below = lcm(below, fraction[1])
    return below


def times(fraction, below):
    """A fraction times a multiple of its denominator."""
    return fraction[0] * (below // fraction[1])


def times_parts(parts, below):
    """The parts of a sum times a multiple of their denominators, as pairs."""
    return [(state, times(fraction, below)) for state, fraction in parts.items()]
