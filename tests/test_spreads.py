"""Point [53]: what two walks show on common and on opposite digits."""

import itertools
import random
import unittest
from fractions import Fraction

from random_webs import frac, pair, random_chain

from meantrace.errors import BadNumber, TooMany
from meantrace.leaves import tree
from meantrace.pairs import pair_chain
from meantrace.reaching import reach_within
from meantrace.spreads import both, spreads
from meantrace.webs import web_of

ONE, NONE, HALF = (1, 1), (0, 1), (1, 2)
COIN = ("chain", 2, ((((0,), ("g",), 0), ((1,), (), 0)),))


def both_by_tapes(left, right, flip, goal, n):
    """The chances by all rows of n blocks that are long enough for both."""
    base = left[1]
    longest = max(len(branch[0]) for chain in (left, right) for row in chain[2] for branch in row)
    blocks = list(itertools.product(range(base), repeat=longest))
    found = [[Fraction(1), 0, 0, 0, 0]]
    for _ in range(n):
        further = []
        for chance, here, there, x, y in found:
            for block in blocks:
                other = tuple(base - 1 - digit for digit in block) if flip else block
                mine = next(branch for branch in left[2][here] if block[:len(branch[0])] == branch[0])
                theirs = next(branch for branch in right[2][there] if other[:len(branch[0])] == branch[0])
                further.append([chance / len(blocks), mine[2], theirs[2], x or int(goal in mine[1]), y or int(goal in theirs[1])])
        found = further
    return found


class Both(unittest.TestCase):
    def test_by_hand(self):
        self.assertEqual(both(COIN, COIN, 0, "g", 1), (HALF, NONE, NONE, HALF))
        self.assertEqual(both(COIN, COIN, 1, "g", 1), (NONE, HALF, HALF, NONE))
        self.assertEqual(both(COIN, COIN, 1, "g", 2), (NONE, (1, 4), (1, 4), HALF))
        self.assertEqual(both(COIN, COIN, 0, "g", 60), ((1, 2 ** 60), NONE, NONE, (2 ** 60 - 1, 2 ** 60)))

    def test_the_sides(self):
        never = ("chain", 2, ((((), ("a",), 0),),))
        self.assertEqual(both(COIN, never, 0, "g", 2), ((1, 4), (3, 4), NONE, NONE))
        self.assertEqual(both(never, COIN, 1, "g", 2), ((1, 4), NONE, (3, 4), NONE))
        self.assertEqual(both(never, COIN, 0, "a", 2), (NONE, ONE, NONE, NONE))

    def test_no_ticks(self):
        for flip in (0, 1):
            self.assertEqual(both(COIN, COIN, flip, "g", 0), (ONE, NONE, NONE, NONE))
            self.assertEqual(spreads(COIN, COIN, flip, "g", 0), (NONE, NONE, NONE))

    def test_a_goal_that_is_never_shown(self):
        for goal in ("x", "l.g", "", "r.g", "lg"):
            self.assertEqual(both(COIN, COIN, 1, goal, 9), (ONE, NONE, NONE, NONE))

    def test_the_empty_mark(self):
        chain = ("chain", 2, ((((0,), ("",), 0), ((1,), ("g",), 0)),))
        self.assertEqual(both(chain, chain, 1, "", 1), (NONE, HALF, HALF, NONE))
        self.assertEqual(both(chain, COIN, 0, "g", 1), (NONE, HALF, HALF, NONE))

    def test_not_in_the_same_tick(self):
        first = ("chain", 2, ((((), ("g",), 1),), (((), (), 1),)))
        second = ("chain", 2, ((((), (), 1),), (((), ("g",), 0),)))
        self.assertEqual(both(first, second, 0, "g", 1), (NONE, ONE, NONE, NONE))
        self.assertEqual(both(first, second, 0, "g", 2), (NONE, NONE, NONE, ONE))
        self.assertEqual(both(second, first, 0, "g", 1), (NONE, NONE, ONE, NONE))

    def test_against_all_tapes(self):
        dice = random.Random(53)
        for k in range(150):
            left = random_chain(dice, most=3, base=2)
            right = random_chain(dice, most=3, base=2)
            flip, n = k % 2, k % 4
            rows = both_by_tapes(left, right, flip, "g", n)
            expected = tuple(pair(sum((row[0] for row in rows if (row[3], row[4]) == told), start=Fraction(0)))
                             for told in ((0, 0), (1, 0), (0, 1), (1, 1)))
            self.assertEqual(both(left, right, flip, "g", n), expected)
            self.assertEqual(spreads(left, right, flip, "g", n), self.spreads_of(rows))

    def spreads_of(self, rows):
        told = []
        for value in (lambda x, y: Fraction(x + y, 2), lambda x, y: Fraction(x - y)):
            mean = sum(row[0] * value(row[3], row[4]) for row in rows)
            square = sum(row[0] * value(row[3], row[4]) ** 2 for row in rows)
            told.append((pair(Fraction(mean)), pair(Fraction(square - mean ** 2))))
        return (told[0][0], told[0][1], told[1][1])

    def test_against_the_leaves_of_the_pair(self):
        dice = random.Random(531)
        for k in range(60):
            left = random_chain(dice, base=3)
            right = random_chain(dice, base=3)
            chances = [Fraction(0)] * 4
            for digits, told, _ in tree(pair_chain(left, right, k % 2), 2):
                x = any("l.g" in shown for shown in told)
                y = any("r.g" in shown for shown in told)
                chances[x + 2 * y] += Fraction(1, 3 ** len(digits))
            self.assertEqual(both(left, right, k % 2, "g", 2), tuple(map(pair, chances)))


class Spreads(unittest.TestCase):
    def test_by_hand(self):
        # On common digits X and Y are the same, on opposite digits they are opposite.
        self.assertEqual(spreads(COIN, COIN, 0, "g", 1), (HALF, (1, 4), NONE))
        self.assertEqual(spreads(COIN, COIN, 1, "g", 1), (HALF, NONE, ONE))
        still = ("chain", 2, ((((), (), 0),),))
        self.assertEqual(spreads(COIN, still, 0, "g", 1), ((1, 4), (1, 16), (1, 4)))

    def test_the_mean_of_both_chances(self):
        dice = random.Random(532)
        for _ in range(60):
            left = random_chain(dice)
            right = random_chain(dice, base=left[1])
            for n in (0, 1, 7, 60):
                chances = [frac(reach_within(web_of(chain), "g", n)[0]) for chain in (left, right)]
                for flip in (0, 1):
                    mean, half, apart = spreads(left, right, flip, "g", n)
                    self.assertEqual(frac(mean), sum(chances) / 2)
                    none, one, other, two = map(frac, both(left, right, flip, "g", n))
                    self.assertEqual(none + one + other + two, 1)
                    self.assertGreaterEqual(min(none, one, other, two, frac(half), frac(apart)), 0)
                    self.assertEqual([one + two, other + two], chances)

    def test_a_chain_with_itself_on_common_digits(self):
        dice = random.Random(533)
        for _ in range(30):
            chain = random_chain(dice)
            mean, half, apart = spreads(chain, chain, 0, "g", 5)
            self.assertEqual(apart, NONE)
            self.assertEqual(frac(half), frac(mean) - frac(mean) ** 2)


class Faults(unittest.TestCase):
    def test_what_pair_chain_raises(self):
        ring = lambda many, base: ("chain", base, tuple((((), (), (k + 1) % many),) for k in range(many)))
        for way in (both, spreads):
            for flip in (0, 1):
                with self.assertRaises(BadNumber) as caught:
                    way(COIN, ring(2, 3), flip, "g", 3)
                self.assertEqual(caught.exception.value, 3)
                with self.assertRaises(TooMany) as caught:
                    way(ring(199, 2), ring(2, 2), flip, "g", 0)
                self.assertEqual(caught.exception.name, "states")
            comb = ((0,) * 60, *[(0,) * k + (1,) for k in range(59, -1, -1)])
            wide = ("chain", 2, (tuple((digits, (), 0) for digits in comb),))
            with self.assertRaises(TooMany) as caught:
                way(wide, wide, 1, "g", 0)
            self.assertEqual(caught.exception.name, "ways")


if __name__ == "__main__":
    unittest.main()
