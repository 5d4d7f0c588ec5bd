"""Point [37]: trees."""

import itertools
import random
import unittest

from helpers import EXAMPLE
from random_models import random_model

from meantrace.chainof import chain_of
from meantrace.chains import walk
from meantrace.errors import TooMany
from meantrace.leaves import tree
from meantrace.tapes import is_complete

CHAIN = ("chain", 2, ((((0,), (), 0), ((1, 0), ("a",), 1), ((1, 1), ("b",), 0)), (((), ("x",), 0),)))


def fan(base, depth):
    """Branches that read so many digits, all of them."""
    return tuple((digits, (), 0) for digits in itertools.product(range(base), repeat=depth))


def comb(many, target):
    """Branches that end at the first 1 or behind so many zeros."""
    zeros = range(many - 2, -1, -1)
    return (((0,) * (many - 1), (), target), *[((0,) * row + (1,), (), target) for row in zeros])


class Trees(unittest.TestCase):
    def test_0_ticks(self):
        self.assertEqual(tree(CHAIN, 0), (((), (), 0),))

    def test_by_hand(self):
        self.assertEqual(tree(CHAIN, 1), (((0,), ((),), 0), ((1, 0), (("a",),), 1), ((1, 1), (("b",),), 0)))
        self.assertEqual(tree(CHAIN, 2), (
            ((0, 0), ((), ()), 0), ((0, 1, 0), ((), ("a",)), 1), ((0, 1, 1), ((), ("b",)), 0),
            ((1, 0), (("a",), ("x",)), 0),
            ((1, 1, 0), (("b",), ()), 0), ((1, 1, 1, 0), (("b",), ("a",)), 1), ((1, 1, 1, 1), (("b",), ("b",)), 0),
        ))

    def test_nothing_is_read(self):
        chain = ("chain", 5, ((((), ("m",), 1),), (((), (), 0),)))
        self.assertEqual(tree(chain, 3), (((), (("m",), (), ("m",)), 1),))
        self.assertEqual(tree(chain, 60), (((), (("m",), ()) * 30, 0),))

    def test_a_branch_for_each_walk_also_if_they_show_the_same(self):
        chain = ("chain", 2, ((((0,), (), 0), ((1,), (), 0)),))
        self.assertEqual(tree(chain, 2), tuple(((d, e), ((), ()), 0) for d in (0, 1) for e in (0, 1)))

    def test_random_chains(self):
        dice = random.Random(37)
        for seed in range(200):
            try:
                chain = chain_of(random_model(seed))
                leaves = tree(chain, seed % 5)
            except TooMany:
                continue
            tapes = tuple(leaf[0] for leaf in leaves)
            self.assertEqual(tapes, tuple(sorted(tapes)))
            self.assertTrue(is_complete(chain[1], tapes))
            for digits, shown, state in dice.sample(leaves, min(20, len(leaves))):
                self.assertEqual(walk(chain, digits, seed % 5), (shown, state, len(digits)))


class TooManyLeaves(unittest.TestCase):
    def assert_many(self, many, chain, n):
        leaves = tree(chain, n)
        self.assertEqual(len(leaves), many)
        self.assertTrue(is_complete(chain[1], tuple(leaf[0] for leaf in leaves)))

    def assert_too_many(self, chain, n):
        with self.assertRaises(TooMany) as caught:
            tree(chain, n)
        self.assertEqual(caught.exception.name, "leaves")

    def test_4000_leaves_and_more(self):
        still = (((), (), 2),)
        for first, second in ((80, 50), (50, 80), (40, 100)):
            chain = ("chain", 2, (comb(first, 1), comb(second, 2), still))
            self.assert_many(4000, chain, 2)
            self.assert_many(4000, chain, 60)
        for first, second in ((81, 50), (80, 51), (100, 100)):
            chain = ("chain", 2, (comb(first, 1), comb(second, 2), still))
            self.assert_many(first, chain, 1)
            self.assert_too_many(chain, 2)
            self.assert_too_many(chain, 60)

    def test_just_one_more_than_4000(self):
        # One of the 81 branches leads to a state with one branch: 80 * 50 + 1 leaves.
        chain = ("chain", 2, ((*comb(80, 1)[:-1], ((1, 0), (), 1), ((1, 1), (), 2)), comb(50, 2), (((), (), 2),)))
        self.assert_many(81, chain, 1)
        self.assert_too_many(chain, 2)

    def test_growth(self):
        chain = ("chain", 2, (fan(2, 1),))
        self.assert_many(2048, chain, 11)
        self.assert_too_many(chain, 12)
        self.assert_too_many(chain, 60)
        self.assert_too_many(chain_of(EXAMPLE), 12)
        self.assert_many(1296, ("chain", 6, (fan(6, 2),)), 2)
        self.assert_too_many(("chain", 6, (fan(6, 2),)), 3)


if __name__ == "__main__":
    unittest.main()
