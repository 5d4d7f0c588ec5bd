"""Fractions: pairs of integers in lowest terms, the second one at least 1."""

from math import gcd


def make_fraction(n, d):
    """The fraction n / d in lowest terms."""
    if d < 0:
        n, d = -n, -d
    common = gcd(n, d)
    return (n // common, d // common)


def sum_of(a, b):
    """The sum of two fractions."""
    return make_fraction(a[0] * b[1] + b[0] * a[1], a[1] * b[1])


def difference_of(a, b):
    """The fraction a less the fraction b."""
    return make_fraction(a[0] * b[1] - b[0] * a[1], a[1] * b[1])


def product_of(a, b):
    """The product of two fractions."""
    return make_fraction(a[0] * b[0], a[1] * b[1])


def quotient_of(a, b):
    """The fraction a divided by the fraction b, which is not zero."""
    return make_fraction(a[0] * b[1], a[1] * b[0])


def total_of(fractions):
    """The sum of some fractions."""
    total = (0, 1)
    for fraction in fractions:
        total = sum_of(total, fraction)
    return total


def is_less(a, b):
    """Whether the fraction a is less than the fraction b."""
    return a[0] * b[1] < b[0] * a[1]


def least_of(fractions):
    """The least of some fractions."""
    least = fractions[0]
    for fraction in fractions:
        if is_less(fraction, least):
            least = fraction
    return least


def greatest_of(fractions):
    """The greatest of some fractions."""
    greatest = fractions[0]
    for fraction in fractions:
        if is_less(greatest, fraction):
            greatest = fraction
    return greatest
