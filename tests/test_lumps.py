"""Points [60] and [61]: states that can stand for each other."""

import itertools
import random
import unittest
from fractions import Fraction

from random_webs import frac, pair, random_web, random_worths
from walks_reference import all_groupings, closed_classes

from meantrace.gains import gain, judge_gain, means
from meantrace.likeness import alike, judge_alike
from meantrace.lumps import judge_lumps, lumped, lumps, rounds
from meantrace.reaching import reach, reach_within
from meantrace.waiting import wait
from meantrace.webs import is_web

ONE, NONE, HALF = (1, 1), (0, 1), (1, 2)
A, B = ("a",), ("b",)
# States 1 and 3 are the same but for where their arcs lead; 2 and 4 are the same; 5 is like 2, but leads to 1 alone.
WEB = ("web", (
    (((), 1, HALF), ((), 3, HALF)),
    ((A, 2, (1, 3)), (A, 4, (1, 3)), (B, 0, (1, 3))),
    (((), 0, ONE),),
    ((A, 4, (2, 3)), (B, 0, (1, 3))),
    (((), 0, ONE),),
    (((), 1, ONE),),
))
GROUPS = (0, 1, 2, 1, 2, 3)


def agree(web, groups, first, second):
    told = []
    for state in (first, second):
        sums = {}
        for shown, target, share in web[1][state]:
            head = (shown, groups[target])
            sums[head] = sums.get(head, 0) + frac(share)
        told.append(sums)
    return told[0] == told[1]


def is_stable(web, groups):
    states = range(len(web[1]))
    return all(agree(web, groups, s, t) for s in states for t in states if groups[s] == groups[t])


def doubled(dice, web):
    """A web with one more state that does the same as another one, and arcs that are led to either of both."""
    many = len(web[1])
    twin = dice.randrange(many)
    rows = []
    for row in (*web[1], web[1][twin]):
        sums = {}
        for shown, target, share in row:
            parts = [(target, frac(share))]
            if target == twin:
                part = frac(share) * Fraction(dice.randint(0, 3), 3)
                parts = [(twin, part), (many, frac(share) - part)]
            for place, part in parts:
                if part:
                    sums[(shown, place)] = sums.get((shown, place), 0) + part
        rows.append(tuple((*head, pair(sums[head])) for head in sorted(sums)))
    return ("web", tuple(rows))


class Rounds(unittest.TestCase):
    def test_by_hand(self):
        self.assertEqual(rounds(WEB), ((0,) * 6, (0, 1, 0, 1, 0, 0), (0, 1, 2, 1, 2, 0)))
        self.assertEqual(lumps(WEB), (0, 1, 2, 1, 2, 0))

    def test_one_grouping(self):
        for many in (1, 2, 5, 200):
            web = ("web", tuple((((), (k * 7 + 1) % many, ONE),) for k in range(many)))
            self.assertEqual(rounds(web), ((0,) * many,))
            self.assertEqual(lumps(web), (0,) * many)

    def test_many_groupings(self):
        many = 200
        web = ("web", (*[(((), k + 1, ONE),) for k in range(many - 1)], ((A, many - 1, ONE),)))
        told = rounds(web)
        self.assertEqual(len(told), many)
        for k, groups in enumerate(told):
            self.assertEqual(max(groups), k)
        self.assertEqual(told[1], (0,) * (many - 1) + (1,))
        self.assertEqual(told[2], (0,) * (many - 2) + (1, 2))
        self.assertEqual(told[-1], tuple(range(many)))

    def test_groups_are_numbered_as_they_first_stand(self):
        web = ("web", ((B, 0, ONE), (A, 1, ONE), (B, 2, ONE), ((), 3, ONE)))
        web = ("web", tuple((row,) for row in web[1]))
        self.assertEqual(rounds(web), ((0, 0, 0, 0), (0, 1, 0, 2)))

    def test_each_one_from_the_one_ahead(self):
        dice = random.Random(60)
        lengths = []
        for k in range(200):
            web = random_web(dice, most=4, marks=("a",), arcs=2, chance=0.3)
            if k % 2:
                web = doubled(dice, doubled(dice, web))
            told = rounds(web)
            lengths.append(len(told))
            self.assertEqual(told[0], (0,) * len(web[1]))
            states = range(len(web[1]))
            for here, ahead in zip(told, told[1:]):
                self.assertFalse(is_stable(web, here))
                for s in states:
                    for t in states:
                        self.assertEqual(ahead[s] == ahead[t], here[s] == here[t] and agree(web, here, s, t))
            self.assertTrue(is_stable(web, told[-1]))
            for groups in told:
                self.assertIn(groups, all_groupings(len(groups)))
                self.assertIs(judge_lumps(web, groups), groups == told[-1])
            self.assertEqual(lumps(web), told[-1])
        self.assertGreater(max(lengths), 3)


class Lumps(unittest.TestCase):
    def test_against_all_groupings(self):
        dice = random.Random(601)
        smaller = 0
        for _ in range(150):
            web = doubled(dice, random_web(dice, most=3, marks=("a",), arcs=2))
            best = lumps(web)
            smaller += max(best) + 1 < len(web[1])
            for groups in all_groupings(len(web[1])):
                taken = judge_lumps(web, groups)
                self.assertIs(taken, is_stable(web, groups))
                if taken:
                    self.assertGreaterEqual(max(groups), max(best))
                    for s, t in itertools.combinations(range(len(groups)), 2):
                        if groups[s] == groups[t]:
                            self.assertEqual(best[s], best[t])
        self.assertGreater(smaller, 140)


class Judge(unittest.TestCase):
    def assert_taken(self, expected, groups, web=WEB):
        self.assertIs(judge_lumps(web, groups), expected)

    def test_right_ones(self):
        for groups in (GROUPS, (0, 1, 2, 1, 2, 0), (0, 1, 2, 3, 4, 5), (0, 1, 2, 1, 2, 0), (0, 1, 2, 3, 2, 4)):
            self.assert_taken(is_stable(WEB, groups), groups)
        self.assert_taken(True, GROUPS)
        self.assert_taken(True, tuple(range(6)))

    def test_states_that_do_not_agree(self):
        for groups in ((0,) * 6, (0, 1, 0, 1, 0, 0), (0, 1, 2, 1, 3, 4), (0, 0, 1, 0, 1, 2), (0, 1, 1, 2, 3, 4)):
            self.assert_taken(False, groups)

    def test_numbered_otherwise(self):
        for groups in ((1, 0, 2, 0, 2, 3), (0, 2, 1, 2, 1, 3), (0, 1, 2, 1, 2, 4), (1, 2, 3, 2, 3, 4), (0, -1, 2, -1, 2, 3), (-1, 0, 1, 0, 1, 2),
                       (0, 1, 2, 1, 2, 10 ** 399), (5, 1, 2, 1, 2, 0), (3, 1, 2, 1, 2, 0)):
            self.assert_taken(False, groups)

    def test_how_many(self):
        for groups in ((), GROUPS[:5], (*GROUPS, 0), (*GROUPS, 4), (0,)):
            self.assert_taken(False, groups)
        self.assert_taken(True, (0,), ("web", (((A, 0, ONE),),)))
        self.assert_taken(False, (), ("web", (((A, 0, ONE),),)))

    def test_the_sums_count_not_the_arcs(self):
        web = ("web", (((A, 0, (1, 2)), (A, 1, (1, 4)), (B, 1, (1, 4))), ((A, 1, (3, 4)), (B, 0, (1, 4)))))
        self.assert_taken(True, (0, 0), web)
        web = ("web", (((A, 0, (1, 2)), (A, 1, (1, 4)), (B, 1, (1, 4))), ((A, 1, (1, 2)), (B, 0, (1, 2)))))
        self.assert_taken(False, (0, 0), web)


class Lumped(unittest.TestCase):
    def test_by_hand(self):
        self.assertEqual(lumped(WEB, GROUPS), ("web", (
            (((), 1, ONE),), ((A, 2, (2, 3)), (B, 0, (1, 3))), (((), 0, ONE),), (((), 1, ONE),))))
        self.assertEqual(lumped(WEB, tuple(range(6))), WEB)

    def test_the_same_chances_means_values_and_times(self):
        dice = random.Random(61)
        tried = 0
        for k in range(120):
            web = doubled(dice, doubled(dice, random_web(dice, most=3)))
            groups = lumps(web)
            if k % 3 == 0:
                stable = [told for told in all_groupings(len(web[1])) if is_stable(web, told)]
                groups = dice.choice(stable)
            small = lumped(web, groups)
            self.assertTrue(is_web(small))
            self.assertEqual(len(small[1]), max(groups) + 1)
            worths = random_worths(dice)
            kind, paper = alike(web, small)
            self.assertEqual(kind, "alike")
            self.assertIs(judge_alike(web, small, paper), True)
            for way in (lambda w: reach_within(w, "a", 3), lambda w: reach(w, "a")[0], lambda w: reach(w, "a")[1],
                        lambda w: wait(w, "a")[2], lambda w: means(w, worths, 7)):
                self.assertEqual(way(web), tuple(way(small)[group] for group in groups))
            if len(closed_classes(web)) == 1:
                tried += 1
                rate, potentials = gain(small, worths)
                self.assertEqual(gain(web, worths), (rate, tuple(potentials[group] for group in groups)))
                self.assertIs(judge_gain(web, worths, gain(web, worths)), True)
        self.assertGreater(tried, 30)


if __name__ == "__main__":
    unittest.main()
