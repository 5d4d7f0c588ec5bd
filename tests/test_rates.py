"""Point [57]: the greatest worths of walks, and per tick in the long run."""

import itertools
import random
import unittest
from fractions import Fraction

from random_webs import frac, pair, random_chain, random_worths
from walks_reference import can_come_to

from meantrace.gains import worth_of
from meantrace.leaves import tree
from meantrace.rates import greatest, judge_rate, rate
from meantrace.webs import web_of

ONE, NONE, HALF = (1, 1), (0, 1), (1, 2)
# A ring of 0, 1 and 2 with the worths 2, -1 and 3; state 1 also has a ring of its own with the worth 1.
CHAIN = ("chain", 2, (
    (((), ("a",), 1),),
    (((0,), ("b",), 2), ((1,), ("c",), 1)),
    (((0,), ("d",), 0), ((1,), (), 3)),
    (((), ("b", "b"), 3),),
    (((), ("d", "d"), 4),),
))
WORTHS = (("a", 2), ("b", -1), ("c", 1), ("d", 3))


def best_ring_mean(chain, worths):
    """The greatest mean of a ring that walks from state 0 come to, by all rings without a state twice."""
    reached = can_come_to(web_of(chain), 0)
    means = []
    for many in range(1, len(reached) + 1):
        for states in itertools.permutations(sorted(reached), many):
            total = 0
            for here, there in zip(states, states[1:] + states[:1]):
                told = [worth_of(worths, shown) for _, shown, target in chain[2][here] if target == there]
                if not told:
                    total = None
                    break
                total += max(told)
            if total is not None:
                means.append(Fraction(total, many))
    return max(means)


class Greatest(unittest.TestCase):
    def test_by_hand(self):
        self.assertEqual(greatest(CHAIN, WORTHS, 0), (0, 0))
        self.assertEqual(greatest(CHAIN, WORTHS, 1), (2, 2))
        self.assertEqual(greatest(CHAIN, WORTHS, 2), (1, 3))
        self.assertEqual(greatest(CHAIN, WORTHS, 3), (1, 4))
        self.assertEqual(greatest(CHAIN, WORTHS, 4), (-1, 6))

    def test_200_ticks(self):
        chain = ("chain", 2, ((((0,), ("a",), 0), ((1,), ("b", "b"), 0)),))
        self.assertEqual(greatest(chain, (("a", 99), ("b", -99)), 200), (-198 * 200, 99 * 200))
        self.assertEqual(greatest(chain, (), 200), (0, 0))
        self.assertEqual(greatest(chain, (("c", 5),), 200), (0, 0))

    def test_against_the_leaves_of_trees(self):
        dice = random.Random(57)
        for k in range(200):
            chain, worths = random_chain(dice), random_worths(dice)
            sums = [sum(worth_of(worths, shown) for shown in told) for _, told, _ in tree(chain, k % 5)]
            self.assertEqual(greatest(chain, worths, k % 5), (min(sums), max(sums)))


class Rate(unittest.TestCase):
    def assert_rate(self, expected, chain, worths):
        paper = rate(chain, worths)
        self.assertEqual(paper[0], expected)
        self.assertIs(judge_rate(chain, worths, paper), True)
        self.assertEqual(len(paper), 4)
        return paper

    def test_by_hand(self):
        paper = self.assert_rate((4, 3), CHAIN, WORTHS)
        self.assertIsNone(paper[1][4])
        self.assertNotIn(None, paper[1][:4])
        # Without the ring of three the ring of state 1 is the best one.
        self.assert_rate((2, 1), CHAIN, (("a", -9), ("c", 2)))
        self.assert_rate((-1, 1), CHAIN, (("a", -1), ("b", -1), ("c", -1), ("d", -1)))
        self.assert_rate((-4, 3), CHAIN, (("a", -2), ("b", -2), ("c", -3), ("d", 0)))

    def test_rings_that_walks_do_not_come_to(self):
        self.assert_rate(NONE, CHAIN, ())
        # The ring of state 4 has the worth 6 per tick.
        self.assertEqual(rate(CHAIN, WORTHS)[0], (4, 3))

    def test_one_block(self):
        chain = ("chain", 2, ((((0,), ("a",), 0), ((1,), ("b",), 0)),))
        self.assertEqual(rate(chain, (("a", 1), ("b", 4))), ((4, 1), (NONE,), (), ((1,),)))
        self.assert_rate((-1, 1), chain, (("a", -1), ("b", -4)))

    def test_a_way_to_the_ring(self):
        rows = tuple((((), ("a",), min(k + 1, 9)),) for k in range(9)) + ((((), ("b",), 9),),)
        paper = self.assert_rate((-2, 1), ("chain", 3, rows), (("a", 5), ("b", -2)))
        self.assertEqual(paper[2:], (((),) * 9, ((),)))

    def test_a_long_ring(self):
        rows = tuple((((), ("a",) if k % 3 == 0 else (), (k + 1) % 200),) for k in range(200))
        self.assert_rate((67, 200), ("chain", 2, rows), (("a", 1),))

    def test_random_chains(self):
        dice = random.Random(571)
        for k in range(300):
            chain, worths = random_chain(dice, most=5, splits=1 + k % 3), random_worths(dice)
            paper = self.assert_rate(pair(best_ring_mean(chain, worths)), chain, worths)
            reached = can_come_to(web_of(chain), 0)
            self.assertEqual([state for state, part in enumerate(paper[1]) if part is not None], sorted(reached))

    def test_what_a_paper_tells_of_walks(self):
        dice = random.Random(572)
        for _ in range(100):
            chain, worths = random_chain(dice, most=5), random_worths(dice)
            speed, potentials, way, ring = rate(chain, worths)
            least = min(frac(part) for part in potentials if part is not None)
            for n in (0, 1, 5, 60, 200):
                most = greatest(chain, worths, n)[1]
                self.assertLessEqual(most, n * frac(speed) + frac(potentials[0]) - least)
            # It is also what the greatest sums tell in the long run.
            late = Fraction(greatest(chain, worths, 200)[1], 200)
            self.assertLess(abs(late - frac(speed)), Fraction(20 * 99 * 5, 200))


class Judge(unittest.TestCase):
    SPEED = (4, 3)
    # Along the ring the potentials change by 4/3 less the worth: -2/3, 7/3, -5/3.
    POTENTIALS = (NONE, (-2, 3), (5, 3), (0, 1), None)
    RING = ((), (0,), (0,))

    def assert_taken(self, expected, speed=SPEED, potentials=POTENTIALS, way=(), ring=RING, chain=CHAIN, worths=WORTHS):
        self.assertIs(judge_rate(chain, worths, (speed, potentials, way, ring)), expected)

    def test_right_papers(self):
        self.assert_taken(True)
        self.assert_taken(True, potentials=((7, 1), (19, 3), (26, 3), (7, 1), None))
        self.assert_taken(True, potentials=(NONE, (-2, 3), (5, 3), (1, 3), None))
        self.assert_taken(True, potentials=(NONE, (-2, 3), (5, 3), (-99, 1), None))
        self.assert_taken(True, way=((), (1,), (1,)), ring=((0,), (0,), ()))
        self.assert_taken(True, ring=self.RING * 2)
        self.assert_taken(True, way=self.RING * 2)

    def test_the_rate(self):
        for speed in ((1, 1), (5, 3), (2, 1), (-4, 3), NONE, (10 ** 399, 1), (4, 10 ** 399 + 1)):
            self.assert_taken(False, speed)
        # A rate that is too great, with potentials that fit, is not had by the ring.
        self.assert_taken(False, (3, 1), (NONE, NONE, NONE, NONE, None))

    def test_one_potential(self):
        for at in range(3):
            for part in ((10, 1), (-10, 1), (1, 7), (10 ** 399, 1), (-10 ** 399, 1)):
                self.assert_taken(False, potentials=(*self.POTENTIALS[:at], part, *self.POTENTIALS[at + 1:]))
        # State 3 leads to itself alone; from state 2 it may have at most 3.
        for part, expected in (((3, 1), True), ((31, 10), False), ((4, 1), False), ((-50, 1), True)):
            self.assert_taken(expected, potentials=(*self.POTENTIALS[:3], part, None))

    def test_none(self):
        for at in range(4):
            self.assert_taken(False, potentials=(*self.POTENTIALS[:at], None, *self.POTENTIALS[at + 1:]))
        self.assert_taken(False, potentials=(None,) * 5)
        # A state that walks do not come to can have none, or one that fits: its own ring is worth 6.
        for part in (NONE, (5, 1), (-5, 1)):
            self.assert_taken(False, potentials=(*self.POTENTIALS[:4], part))
        less = (*WORTHS[:3], ("d", 0))
        self.assert_taken(True, ONE, ((2, 1), ONE, ONE, ONE, None), ((),), ((1,),), worths=less)
        for part in (NONE, (50, 1), (-50, 1)):
            self.assert_taken(True, ONE, ((2, 1), ONE, ONE, ONE, part), ((),), ((1,),), worths=less)

    def test_how_many_potentials(self):
        for potentials in ((), self.POTENTIALS[:4], (*self.POTENTIALS, None), (*self.POTENTIALS, NONE), (NONE,)):
            self.assert_taken(False, potentials=potentials)

    def test_rings(self):
        self.assert_taken(False, ring=())
        self.assert_taken(False, ring=((), (0,)))
        self.assert_taken(False, ring=((), (0,), (0,), ()))
        self.assert_taken(False, way=((),), ring=((1,),))
        self.assert_taken(False, way=((),))
        for wrong in ((1,), (2,), (0, 0), (), (-1,)):
            self.assert_taken(False, ring=((), wrong, (0,)))
            self.assert_taken(False, ring=((), (0,), wrong))
        for wrong in ((0,), (1,), (0, 0)):
            self.assert_taken(False, ring=(wrong, (0,), (0,)))
            self.assert_taken(False, way=(wrong,), ring=((0,), (0,), ()))
            self.assert_taken(False, way=(wrong,))

    def test_a_ring_with_another_worth(self):
        # The potentials are right for the rate, but the ring of state 1 has 1 per tick.
        self.assert_taken(False, way=((),), ring=((1,),))
        self.assert_taken(False, way=((), (1,)), ring=((1,), (1,)))
        self.assert_taken(False, way=((), (0,), (1,)), ring=((),))

    def test_random_papers_that_are_taken_have_the_rate(self):
        dice = random.Random(573)
        for _ in range(200):
            chain, worths = random_chain(dice, most=3), random_worths(dice)
            speed, potentials, way, ring = rate(chain, worths)
            at = dice.randrange(len(potentials))
            part = dice.choice((None, NONE, ONE, (-3, 1), (7, 2)))
            changed = (*potentials[:at], part, *potentials[at + 1:])
            fits = changed[0] is not None and all(
                changed[state] is None or all(
                    changed[target] is not None
                    and worth_of(worths, shown) + frac(changed[target]) <= frac(speed) + frac(changed[state])
                    for _, shown, target in row)
                for state, row in enumerate(chain[2]))
            self.assert_taken(fits, speed, changed, way, ring, chain, worths)
            self.assert_taken(False, (speed[0] + speed[1], speed[1]), potentials, way, ring, chain, worths)
            self.assert_taken(False, (speed[0] - speed[1], speed[1]), potentials, way, ring, chain, worths)


if __name__ == "__main__":
    unittest.main()
