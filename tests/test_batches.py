"""Points [26] and [27]: batches, the spread within and between them, the warm-up."""

import random
import unittest
from fractions import Fraction

from meantrace.batches import batches, spread_between, spread_within, warm_up
from meantrace.shares import sum_of
from meantrace.tallies import joined, spread_of, tally_of


class Batches(unittest.TestCase):
    def test_values_that_are_left_over(self):
        values = (1, 2, 3, 4, 5, 6, 7, 8)
        self.assertEqual(batches(values, 3), (tally_of((1, 2, 3)), tally_of((4, 5, 6))))
        self.assertEqual(batches(values, 4), (tally_of((1, 2, 3, 4)), tally_of((5, 6, 7, 8))))
        self.assertEqual(batches(values, 8), (tally_of(values),))

    def test_length_1(self):
        self.assertEqual(batches((3, -1), 1), ((1, 3, 9, 3, 3), (1, -1, 1, -1, -1)))

    def test_none(self):
        self.assertEqual(batches((), 1), ())
        self.assertEqual(batches((), 5), ())
        self.assertEqual(batches((1, 2), 3), ())


class Spreads(unittest.TestCase):
    def test_by_hand(self):
        tallies = (tally_of((0, 2)), tally_of((5,)))
        # The means are 1 and 5, that of all is 7/3; the spreads are 1 and 0.
        self.assertEqual(spread_within(tallies), (2, 3))
        self.assertEqual(spread_between(tallies), (32, 9))
        self.assertEqual(spread_of(joined(*tallies)), (38, 9))

    def test_one_tally(self):
        tally = tally_of((1, 2, 3, 4))
        self.assertEqual(spread_within((tally,)), (5, 4))
        self.assertEqual(spread_between((tally,)), (0, 1))

    def test_tallies_of_the_same_values(self):
        tally = tally_of((1, 4))
        self.assertEqual(spread_within((tally,) * 5), (9, 4))
        self.assertEqual(spread_between((tally,) * 5), (0, 1))

    def test_their_sum_is_the_spread_of_all(self):
        dice = random.Random(26)
        for _ in range(200):
            tallies = tuple(tally_of(tuple(dice.randint(-9, 9) for _ in range(dice.randint(1, 5))))
                            for _ in range(dice.randint(1, 5)))
            total = (0, 0, 0, None, None)
            for tally in tallies:
                total = joined(total, tally)
            self.assertEqual(sum_of(spread_within(tallies), spread_between(tallies)), spread_of(total))


class WarmUp(unittest.TestCase):
    def reference(self, values):
        found = []
        for a in range(len(values) // 2 + 1):
            rest = values[a:]
            mean = Fraction(sum(rest), len(rest))
            found.append(sum((value - mean) ** 2 for value in rest) / len(rest) ** 2)
        return found.index(min(found))

    def test_by_hand(self):
        self.assertEqual(warm_up((9, 1, 1, 1)), 1)
        self.assertEqual(warm_up((1, 1, 1, 9)), 0)
        self.assertEqual(warm_up((9, 8, 1, 1, 1, 1, 1)), 2)

    def test_at_most_half_of_the_values(self):
        self.assertEqual(warm_up((9, 9, 9, 1, 1)), 0)
        self.assertEqual(warm_up((9, 5, 9, 1, 1, 1)), 3)
        self.assertEqual(warm_up((90, 50, 20, 10, 1)), 2)

    def test_the_least_of_several_that_are_as_small(self):
        self.assertEqual(warm_up((5, 5, 5, 5, 5)), 0)
        self.assertEqual(warm_up((9, 1, 1, 1, 1, 1)), 1)
        self.assertEqual(warm_up((7, 3, 3, 3)), 1)

    def test_one_value_and_two(self):
        self.assertEqual(warm_up((4,)), 0)
        self.assertEqual(warm_up((-7,)), 0)
        self.assertEqual(warm_up((4, 5)), 1)
        self.assertEqual(warm_up((4, 4)), 0)

    def test_random_values(self):
        dice = random.Random(27)
        for _ in range(500):
            values = tuple(dice.randint(-3, 3) for _ in range(dice.randint(1, 12)))
            self.assertEqual(warm_up(values), self.reference(values), values)


if __name__ == "__main__":
    unittest.main()
