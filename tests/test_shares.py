"""Point [4]: fractions."""

import random
import unittest
from fractions import Fraction

from meantrace.shares import (
    difference_of, is_less, make_fraction, product_of, quotient_of, sum_of, total_of,
)


def pair(fraction):
    return (fraction.numerator, fraction.denominator)


class Shares(unittest.TestCase):
    def test_lowest_terms(self):
        self.assertEqual(make_fraction(6, -4), (-3, 2))
        self.assertEqual(make_fraction(-6, -4), (3, 2))
        self.assertEqual(make_fraction(-6, 4), (-3, 2))
        self.assertEqual(make_fraction(7, 1), (7, 1))
        self.assertEqual(make_fraction(7, -1), (-7, 1))
        self.assertEqual(make_fraction(12, 4), (3, 1))

    def test_zero_has_one_form(self):
        for d in (1, -1, 9, -9):
            self.assertEqual(make_fraction(0, d), (0, 1))
        self.assertEqual(difference_of((2, 3), (2, 3)), (0, 1))
        self.assertEqual(product_of((0, 1), (-5, 3)), (0, 1))
        self.assertEqual(quotient_of((0, 1), (-5, 3)), (0, 1))
        self.assertEqual(sum_of((-1, 2), (1, 2)), (0, 1))

    def test_total(self):
        self.assertEqual(total_of(()), (0, 1))
        self.assertEqual(total_of(((1, 2), (1, 3), (1, 6))), (1, 1))
        self.assertEqual(total_of(((1, 2),)), (1, 2))

    def test_quotients_by_what_is_below_zero(self):
        self.assertEqual(quotient_of((1, 2), (-3, 4)), (-2, 3))
        self.assertEqual(quotient_of((-1, 2), (-3, 4)), (2, 3))
        self.assertEqual(quotient_of((4, 1), (2, 1)), (2, 1))

    def test_less(self):
        self.assertIs(is_less((1, 3), (1, 2)), True)
        self.assertIs(is_less((1, 2), (1, 3)), False)
        self.assertIs(is_less((1, 2), (1, 2)), False)
        self.assertIs(is_less((-1, 2), (0, 1)), True)
        self.assertIs(is_less((-1, 2), (-1, 3)), True)

    def test_many_figures(self):
        great = 10 ** 400 + 1
        self.assertEqual(make_fraction(great * 6, -great * 4), (-3, 2))
        self.assertEqual(sum_of((1, great), (1, great)), (2, great))
        self.assertEqual(product_of((great, 7), (7, great)), (1, 1))
        self.assertIs(is_less((great, great + 1), (1, 1)), True)
        self.assertIs(is_less((great, 1), (great + 1, 1)), True)

    def test_against_the_fractions_of_the_library(self):
        dice = random.Random(4)
        for _ in range(500):
            bound = dice.choice((3, 20, 10 ** 30))
            a = Fraction(dice.randint(-bound, bound), dice.randint(1, bound))
            b = Fraction(dice.randint(-bound, bound), dice.randint(1, bound))
            self.assertEqual(sum_of(pair(a), pair(b)), pair(a + b))
            self.assertEqual(difference_of(pair(a), pair(b)), pair(a - b))
            self.assertEqual(product_of(pair(a), pair(b)), pair(a * b))
            self.assertIs(is_less(pair(a), pair(b)), a < b)
            self.assertEqual(total_of((pair(a), pair(b), pair(a))), pair(a + b + a))
            if b:
                self.assertEqual(quotient_of(pair(a), pair(b)), pair(a / b))


if __name__ == "__main__":
    unittest.main()
