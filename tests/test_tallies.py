"""Point [23]: tallies, means and spreads."""

import random
import unittest

from meantrace.tallies import gauge_tally, joined, mean_of, spread_of, tally_of

NONE = (0, 0, 0, None, None)


class Tallies(unittest.TestCase):
    def test_values(self):
        self.assertEqual(tally_of((3, 1, 1)), (3, 5, 11, 1, 3))
        self.assertEqual(tally_of((-4,)), (1, -4, 16, -4, -4))
        self.assertEqual(tally_of((0, -2, 2)), (3, 0, 8, -2, 2))
        self.assertEqual(tally_of((10 ** 30, 1)), (2, 10 ** 30 + 1, 10 ** 60 + 1, 1, 10 ** 30))

    def test_no_values(self):
        self.assertEqual(tally_of(()), NONE)

    def test_joined(self):
        self.assertEqual(joined((3, 5, 11, 1, 3), (1, -4, 16, -4, -4)), (4, 1, 27, -4, 3))
        self.assertEqual(joined(tally_of((2, 7)), tally_of((3,))), tally_of((2, 7, 3)))

    def test_joined_with_none(self):
        tally = tally_of((3, 1, 1))
        self.assertEqual(joined(tally, NONE), tally)
        self.assertEqual(joined(NONE, tally), tally)
        self.assertEqual(joined(NONE, NONE), NONE)
        zero = tally_of((0, 0))
        self.assertEqual(joined(zero, NONE), (2, 0, 0, 0, 0))

    def test_random_values_in_two_parts(self):
        dice = random.Random(23)
        for _ in range(300):
            values = tuple(dice.randint(-9, 9) for _ in range(dice.randint(0, 7)))
            cut = dice.randint(0, len(values))
            self.assertEqual(joined(tally_of(values[:cut]), tally_of(values[cut:])), tally_of(values))


class MeansAndSpreads(unittest.TestCase):
    def test_in_lowest_terms(self):
        self.assertEqual(mean_of(tally_of((1, 2, 3))), (2, 1))
        self.assertEqual(mean_of(tally_of((1, 2, 3, 4))), (5, 2))
        self.assertEqual(mean_of(tally_of((-1, 0, 0, -1))), (-1, 2))
        self.assertEqual(mean_of(tally_of((0, 0, 0))), (0, 1))
        self.assertEqual(spread_of(tally_of((1, 2, 3))), (2, 3))
        self.assertEqual(spread_of(tally_of((1, 2, 3, 4))), (5, 4))
        self.assertEqual(spread_of(tally_of((7, 7, 7, 7))), (0, 1))
        self.assertEqual(spread_of(tally_of((-3,))), (0, 1))
        self.assertEqual(spread_of(tally_of((-3, 3))), (9, 1))

    def test_no_values(self):
        self.assertIsNone(mean_of(NONE))
        self.assertIsNone(spread_of(NONE))


class Gauges(unittest.TestCase):
    FRAMES = ((0, 5), (1, 4), (1, 4), (3, 0))

    def test_all_ticks_and_some(self):
        self.assertEqual(gauge_tally(self.FRAMES, 0, 0, 4), (4, 5, 11, 0, 3))
        self.assertEqual(gauge_tally(self.FRAMES, 1, 0, 4), (4, 13, 57, 0, 5))
        self.assertEqual(gauge_tally(self.FRAMES, 1, 1, 3), (2, 8, 32, 4, 4))
        self.assertEqual(gauge_tally(self.FRAMES, 0, 3, 4), (1, 3, 9, 3, 3))
        self.assertEqual(gauge_tally(self.FRAMES, 0, 0, 1), (1, 0, 0, 0, 0))

    def test_no_ticks(self):
        for a in range(5):
            self.assertEqual(gauge_tally(self.FRAMES, 0, a, a), NONE)
        self.assertEqual(gauge_tally((), 0, 0, 0), NONE)
        self.assertEqual(gauge_tally((), 3, 0, 0), NONE)


if __name__ == "__main__":
    unittest.main()
