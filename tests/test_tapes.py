"""Point [5]: tapes, their weights, and complete sets."""

import random
import unittest
from itertools import product

from meantrace.shares import total_of
from meantrace.tapes import is_complete, opposite, weight


def random_complete(dice, base, depth):
    """A complete set that is grown at random."""
    if depth == 0 or dice.random() < 0.4:
        return [()]
    return [(digit, *tape) for digit in range(base)
            for tape in random_complete(dice, base, depth - 1)]


class Tapes(unittest.TestCase):
    def test_weights(self):
        self.assertEqual(weight(2, ()), (1, 1))
        self.assertEqual(weight(2, (0,)), (1, 2))
        self.assertEqual(weight(3, (0, 2, 1)), (1, 27))
        self.assertEqual(weight(6, (5,) * 300), (1, 6 ** 300))

    def test_opposites(self):
        self.assertEqual(opposite(2, (0, 1, 1)), (1, 0, 0))
        self.assertEqual(opposite(3, (0, 1, 2)), (2, 1, 0))
        self.assertEqual(opposite(6, (5, 2)), (0, 3))
        self.assertEqual(opposite(4, ()), ())

    def test_the_opposite_of_the_opposite_is_the_tape(self):
        for base in range(2, 7):
            for tape in product(range(base), repeat=3):
                self.assertEqual(opposite(base, opposite(base, tape)), tape)

    def test_complete_sets(self):
        self.assertIs(is_complete(2, ((0,), (1, 0), (1, 1))), True)
        self.assertIs(is_complete(2, ((1, 1), (0,), (1, 0))), True)
        self.assertIs(is_complete(3, ((0,), (1,), (2,))), True)
        self.assertIs(is_complete(2, ((0, 0), (0, 1), (1,))), True)

    def test_the_empty_tape_and_no_tape(self):
        self.assertIs(is_complete(2, ((),)), True)
        self.assertIs(is_complete(6, ((),)), True)
        self.assertIs(is_complete(2, ()), False)
        self.assertIs(is_complete(2, ((), (0,))), False)
        self.assertIs(is_complete(2, ((), (0,), (1,))), False)
        self.assertIs(is_complete(2, ((), (1,))), False)

    def test_a_tape_left_out_and_one_more(self):
        self.assertIs(is_complete(2, ((0,), (1, 0))), False)
        self.assertIs(is_complete(2, ((1, 0), (1, 1))), False)
        self.assertIs(is_complete(2, ((0,), (1, 1))), False)
        self.assertIs(is_complete(2, ((0,), (1,), (1, 1))), False)
        self.assertIs(is_complete(2, ((0,), (1, 0), (1, 1), (1, 1, 0))), False)
        self.assertIs(is_complete(2, ((0,), (0, 0), (1,))), False)
        self.assertIs(is_complete(3, ((0,), (1,))), False)
        # Weights with the sum 1 are not enough.
        self.assertIs(is_complete(2, ((0,), (0, 0), (0, 1))), False)

    def test_strange_digits_and_tapes_that_stand_twice(self):
        for tapes in (((0,), (2,)), ((0,), (1,), (2,)), ((-1,), (0,), (1,)), ((-1,), (0,)),
                      ((0,), (1,), (1,)), ((), ()), ((0, 0), (0, 1), (0, 2), (1,))):
            self.assertIs(is_complete(2, tapes), False)

    def test_random_sets_in_any_order(self):
        dice = random.Random(5)
        for _ in range(200):
            base = dice.randint(2, 6)
            tapes = random_complete(dice, base, 3)
            dice.shuffle(tapes)
            self.assertIs(is_complete(base, tuple(tapes)), True)
            self.assertEqual(total_of(weight(base, tape) for tape in tapes), (1, 1))
            out = dice.choice(tapes)
            self.assertIs(is_complete(base, tuple(t for t in tapes if t != out)), False)
            self.assertIs(is_complete(base, (*tapes, (*out, dice.randrange(base)))), False)
            if out:
                self.assertIs(is_complete(base, (*tapes, out[:-1])), False)

    def test_against_the_words_of_the_document(self):
        longest = [tape for n in range(3) for tape in product(range(2), repeat=n)]
        for bits in product((0, 1), repeat=len(longest)):
            tapes = tuple(tape for tape, bit in zip(longest, bits) if bit)
            begun = [sum(row[:len(tape)] == tape for tape in tapes)
                     for row in product(range(2), repeat=3)]
            self.assertIs(is_complete(2, tapes), begun == [1] * 8)

    def test_long_tapes(self):
        tapes = tuple((1,) * n + (0,) for n in range(900)) + ((1,) * 900,)
        self.assertIs(is_complete(2, tapes), True)
        self.assertIs(is_complete(2, tapes[:-1]), False)


if __name__ == "__main__":
    unittest.main()
