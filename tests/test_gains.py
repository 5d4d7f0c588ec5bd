"""Points [39] and [42]: what walks are worth."""

import random
import unittest

from helpers import EXAMPLE
from random_webs import frac, pair, random_chain, random_web, random_worths
from walks_reference import closed_classes, solve, walks

from meantrace.chainof import chain_of
from meantrace.errors import MeanError, Parted
from meantrace.gains import gain, judge_gain, means, shares_after, worth_of
from meantrace.leaves import tree
from meantrace.shares import product_of, sum_of
from meantrace.tapes import weight
from meantrace.webs import web_of

HALF, ONE, NONE = (1, 2), (1, 1), (0, 1)
COIN = web_of(chain_of(EXAMPLE))
# State 0 leads into the ring of 1 and 2.
WEB = ("web", (
    (((), 0, (1, 2)), (("a",), 1, (1, 2))),
    ((("a", "b"), 2, (1, 1)),),
    (((), 1, (1, 3)), (("b",), 2, (2, 3))),
))
WORTHS = (("a", 4), ("b", -1))


def worth(worths, shown):
    return sum(value for mark in shown for name, value in worths if name == mark)


class Worths(unittest.TestCase):
    def test_worth_of(self):
        for shown, told in (((), 0), (("a",), 4), (("b",), -1), (("a", "b"), 3), (("b", "a", "b", "b"), 1), (("c", ""), 0),
                            (("a",) * 100, 400)):
            self.assertEqual(worth_of(WORTHS, shown), told)
        self.assertEqual(worth_of((), ("a", "b")), 0)
        self.assertEqual(worth_of((("a", -99), ("b", 0), ("c", 99)), ("a", "b", "c", "c")), 99)


class SharesAfter(unittest.TestCase):
    def test_by_hand(self):
        self.assertEqual(shares_after(WEB, 0, 0), (ONE, NONE, NONE))
        self.assertEqual(shares_after(WEB, 2, 0), (NONE, NONE, ONE))
        self.assertEqual(shares_after(WEB, 0, 1), (HALF, HALF, NONE))
        self.assertEqual(shares_after(WEB, 0, 2), ((1, 4), (1, 4), HALF))
        self.assertEqual(shares_after(WEB, 2, 1), (NONE, (1, 3), (2, 3)))
        self.assertEqual(shares_after(COIN, 0, 200), (NONE, ONE))
        self.assertEqual(shares_after(WEB, 0, 200)[0], (1, 2 ** 200))

    def test_several_arcs_to_one_state(self):
        web = ("web", ((((), 0, (1, 3)), (("a",), 0, (1, 6)), (("b",), 1, (1, 2))), (((), 1, ONE),)))
        self.assertEqual(shares_after(web, 0, 1), (HALF, HALF))
        self.assertEqual(shares_after(web, 0, 3), ((1, 8), (7, 8)))

    def test_against_all_walks(self):
        dice = random.Random(392)
        for k in range(150):
            web = random_web(dice, most=5)
            state = dice.randrange(len(web[1]))
            found = shares_after(web, state, k % 5)
            ends = walks(web, k % 5, state)
            for place in range(len(web[1])):
                self.assertEqual(found[place], pair(sum((c for c, _, end in ends if end == place), start=frac(NONE))))

    def test_against_trees(self):
        dice = random.Random(393)
        for k in range(60):
            chain = random_chain(dice)
            found = [NONE] * len(chain[2])
            for digits, _, end in tree(chain, k % 4):
                found[end] = sum_of(found[end], weight(chain[1], digits))
            self.assertEqual(shares_after(web_of(chain), 0, k % 4), tuple(found))


class Means(unittest.TestCase):
    def test_by_hand(self):
        self.assertEqual(means(WEB, WORTHS, 0), (NONE,) * 3)
        self.assertEqual(means(WEB, WORTHS, 1), ((2, 1), (3, 1), (-2, 3)))
        self.assertEqual(means(WEB, WORTHS, 2), ((9, 2), (7, 3), (-1, 9)))
        for n in (1, 10, 200):
            self.assertEqual(means(COIN, (("a", -99),), n), ((-99 * n, 2) if n % 2 else (-99 * n // 2, 1),) * 2)

    def test_no_worths_and_marks_that_are_never_shown(self):
        for worths in ((), (("c", 99),), (("", 1), ("aa", 2))):
            for n in (0, 1, 200):
                self.assertEqual(means(WEB, worths, n), (NONE,) * 3)

    def test_marks_that_stand_twice(self):
        web = ("web", (((("a", "a", "b"), 0, ONE),),))
        self.assertEqual(means(web, WORTHS, 3), ((21, 1),))

    def test_against_all_walks(self):
        dice = random.Random(394)
        for k in range(150):
            web, worths = random_web(dice), random_worths(dice)
            found = means(web, worths, k % 5)
            for state in range(len(web[1])):
                told = [chance * sum(worth(worths, shown) for shown in row) for chance, row, _ in walks(web, k % 5, state)]
                self.assertEqual(found[state], pair(sum(told)))

    def test_against_trees(self):
        dice = random.Random(395)
        for k in range(60):
            chain, worths = random_chain(dice), random_worths(dice)
            total = NONE
            for digits, row, _ in tree(chain, k % 4):
                part = sum(worth_of(worths, shown) for shown in row)
                total = sum_of(total, product_of(weight(chain[1], digits), (part, 1)))
            self.assertEqual(means(web_of(chain), worths, k % 4)[0], total)


def expected_gain(web, worths):
    """Rate and potentials by equations: the unknowns are the rate and all potentials but that of state 0."""
    many = len(web[1])
    matrix, side = [], []
    for state, row in enumerate(web[1]):
        line, right = [frac(NONE)] * many, frac(NONE)
        line[0] += 1
        if state:
            line[state] += 1
        for shown, target, share in row:
            right += frac(share) * worth(worths, shown)
            if target:
                line[target] -= frac(share)
        matrix.append(line)
        side.append(right)
    found = solve(matrix, side)
    return (pair(found[0]), (NONE, *[pair(part) for part in found[1:]]))


class Gain(unittest.TestCase):
    def test_by_hand(self):
        self.assertEqual(gain(COIN, (("a", 3),)), ((3, 2), (NONE, NONE)))
        # The ring is at 1 in one tick of four.
        rate, potentials = gain(WEB, WORTHS)
        self.assertEqual(rate, (1, 4))
        self.assertEqual(potentials, (NONE, (-7, 2), (-25, 4)))
        self.assertIs(judge_gain(WEB, WORTHS, (rate, potentials)), True)

    def test_one_state(self):
        web = ("web", (((("a",), 0, (1, 3)), (("b",), 0, (2, 3))),))
        self.assertEqual(gain(web, WORTHS), ((2, 3), (NONE,)))
        self.assertEqual(gain(web, ()), (NONE, (NONE,)))

    def test_a_closed_class_of_one_state(self):
        web = ("web", ((((), 0, HALF), (("a",), 1, HALF)), ((("b",), 1, ONE),)))
        self.assertEqual(gain(web, WORTHS), ((-1, 1), (NONE, (-6, 1))))
        self.assertIs(judge_gain(web, WORTHS, ((-1, 1), (NONE, (-6, 1)))), True)
        turned = ("web", (((("b",), 0, ONE),), ((("a",), 0, HALF), ((), 1, HALF))))
        self.assertEqual(gain(("web", (turned[1][0], tuple(sorted(turned[1][1])))), WORTHS), ((-1, 1), (NONE, (6, 1))))

    def test_rings_whose_states_take_turns(self):
        many = 7
        web = ("web", tuple((((("a",) if k == 3 else ()), (k + 1) % many, ONE),) for k in range(many)))
        rate, potentials = gain(web, (("a", 7),))
        self.assertEqual(rate, ONE)
        self.assertEqual(potentials, (NONE, (1, 1), (2, 1), (3, 1), (-3, 1), (-2, 1), (-1, 1)))

    def test_several_closed_classes(self):
        still = lambda k: (((), k, ONE),)
        self.assert_parted(0, 1, still(0), still(1))
        self.assert_parted(1, 2, (((), 1, HALF), ((), 2, HALF)), still(1), still(2))
        self.assert_parted(1, 2, (((), 3, ONE),), still(1), still(2), still(3))
        # Walks from state 0 come to one class only.
        self.assert_parted(0, 2, still(0), (((), 0, ONE),), still(2))
        self.assert_parted(1, 4, (((), 2, ONE),), (((), 2, ONE),), (((), 1, ONE),), (((), 0, ONE),), still(4))
        # The least states of the classes are 2 and 3, of which 3 stands for 3 and 5; 4 for itself.
        self.assert_parted(2, 3, (((), 4, HALF), ((), 5, HALF)), (((), 2, ONE),), still(2), (((), 5, ONE),), still(4), (((), 3, ONE),))

    def assert_parted(self, first, second, *rows):
        for worths in ((), WORTHS):
            with self.assertRaises(Parted) as caught:
                gain(("web", rows), worths)
            self.assertEqual((caught.exception.first, caught.exception.second), (first, second))
            self.assertIsInstance(caught.exception, MeanError)

    def test_200_states(self):
        rows = [tuple(sorted(((("a",) * (k % 3), (k + 1) % 200, HALF), ((), 0, HALF)))) for k in range(199)]
        web = ("web", (*rows, (((), 0, ONE),)))
        paper = gain(web, WORTHS)
        self.assertIs(judge_gain(web, WORTHS, paper), True)
        line = [tuple(sorted(((("b",), max(k - 1, 0), HALF), (("a",), min(k + 1, 199), HALF)))) for k in range(200)]
        self.assertEqual(gain(("web", tuple(line)), WORTHS)[0], (3, 2))

    def test_random_webs(self):
        dice = random.Random(42)
        many = parted = 0
        for _ in range(400):
            web, worths = random_web(dice, most=6), random_worths(dice)
            classes = closed_classes(web)
            if len(classes) > 1:
                self.assert_parted(classes[0][0], classes[1][0], *web[1])
                parted += 1
                continue
            paper = gain(web, worths)
            self.assertEqual(paper, expected_gain(web, worths))
            self.assertIs(judge_gain(web, worths, paper), True)
            many += 1
            # What a paper tells of the means and the chances to be somewhere.
            rate, potentials = paper
            for n in (0, 1, 3, 50):
                found = means(web, worths, n)
                state = dice.randrange(len(found))
                ahead = sum(frac(share) * frac(part) for share, part in zip(shares_after(web, state, n), potentials))
                self.assertEqual(frac(found[state]), n * frac(rate) + frac(potentials[state]) - ahead)
        self.assertGreater(many, 150)
        self.assertGreater(parted, 20)


class Judge(unittest.TestCase):
    PAPER = ((1, 4), (NONE, (-7, 2), (-25, 4)))

    def assert_taken(self, expected, rate=(1, 4), potentials=PAPER[1], web=WEB, worths=WORTHS):
        self.assertIs(judge_gain(web, worths, (rate, potentials)), expected)

    def test_right_paper(self):
        self.assert_taken(True)
        self.assert_taken(True, NONE, (NONE,) * 3, worths=())

    def test_wrong_rates(self):
        for rate in ((-1, 4), (1, 2), (0, 1), (1, 1), (10 ** 399, 1), (1, 10 ** 399)):
            self.assert_taken(False, rate)

    def test_wrong_potentials(self):
        for at in range(3):
            for part in ((1, 1), (-7, 2), (-25, 4), (25, 4), (0, 1), (10 ** 399, 3)):
                potentials = (*self.PAPER[1][:at], part, *self.PAPER[1][at + 1:])
                self.assert_taken(potentials == self.PAPER[1], potentials=potentials)

    def test_the_potential_of_state_0(self):
        # All potentials are one more, so all equations hold.
        self.assert_taken(False, potentials=((1, 1), (-5, 2), (-21, 4)))

    def test_how_many(self):
        for potentials in ((), (NONE,), self.PAPER[1][:2], (*self.PAPER[1], NONE)):
            self.assert_taken(False, potentials=potentials)
        still = ("web", ((((), 0, ONE),),))
        self.assert_taken(True, NONE, (NONE,), still)
        self.assert_taken(False, NONE, (), still)
        self.assert_taken(False, NONE, (NONE, NONE), still)

    def test_worths_count(self):
        self.assert_taken(False, worths=())
        self.assert_taken(False, worths=(("a", 4),))
        self.assert_taken(False, worths=(("a", 4), ("b", 1)))

    def test_several_closed_classes_can_have_one_rate(self):
        web = ("web", (((("a",), 0, ONE),), ((("a",), 1, ONE),)))
        for part in (NONE, ONE, (-5, 3)):
            self.assert_taken(True, (4, 1), (NONE, part), web)
        other = ("web", (((("a",), 0, ONE),), ((("b",), 1, ONE),)))
        self.assert_taken(False, (4, 1), (NONE, NONE), other)
        self.assert_taken(False, (-1, 1), (NONE, NONE), other)


if __name__ == "__main__":
    unittest.main()
