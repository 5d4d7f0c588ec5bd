"""Point [62]: loose webs."""

import itertools
import random
import unittest
from fractions import Fraction

from random_webs import frac, pair, random_web
from walks_reference import all_groupings

from meantrace.loose import bounds, is_loose, judge_within, loosen
from meantrace.lumps import lumped, lumps
from meantrace.reaching import reach_within

ONE, NONE, HALF = (1, 1), (0, 1), (1, 2)
A, G = ("a",), ("g",)
ROW = (((), 0, (1, 4), (3, 4)), ((), 1, NONE, HALF), (A, 0, (1, 4), (1, 4)))
STILL = (((), 1, ONE, ONE),)
LOOSE = ("loose", (ROW, STILL))


class IsLoose(unittest.TestCase):
    def assert_loose(self, expected, *rows, word="loose"):
        self.assertIs(is_loose((word, rows)), expected)

    def test_right_ones(self):
        self.assertIs(is_loose(LOOSE), True)
        self.assert_loose(True, (((), 0, ONE, ONE),))
        self.assert_loose(True, (((), 0, NONE, ONE),))
        self.assert_loose(True, (((), 0, NONE, ONE), (A, 0, NONE, NONE)))
        self.assert_loose(True, (((), 0, (2, 5), (2, 5)), (A, 0, (3, 5), (3, 5))))

    def test_the_word(self):
        for word in ("", "web", "Loose", "looser"):
            self.assert_loose(False, ROW, STILL, word=word)

    def test_rows(self):
        self.assert_loose(False)
        for many in (1, 2, 59, 60, 61, 200):
            self.assert_loose(many <= 60, *[(((), many - 1, NONE, ONE),)] * many)
        self.assert_loose(False, ROW, ())
        self.assert_loose(False, ())

    def test_nexts(self):
        for target in (-10 ** 399, -2, -1, 2, 3, 10 ** 399):
            self.assert_loose(False, ROW, (((), target, ONE, ONE),))
            self.assert_loose(False, (*ROW[:2], (A, target, (1, 4), (1, 4))), STILL)
        self.assert_loose(False, ROW)

    def test_the_order(self):
        self.assert_loose(False, ROW[::-1], STILL)
        self.assert_loose(False, (ROW[1], ROW[0], ROW[2]), STILL)
        self.assert_loose(False, (ROW[0], ROW[2], ROW[1]), STILL)

    def test_arcs_that_stand_twice(self):
        self.assert_loose(False, (((), 0, NONE, HALF), ((), 0, NONE, ONE)))
        self.assert_loose(False, (((), 0, NONE, HALF), ((), 0, NONE, HALF)))
        self.assert_loose(False, (((), 0, NONE, HALF), ((), 0, (1, 4), HALF), ((), 1, NONE, ONE)), STILL)
        self.assert_loose(True, (((), 0, NONE, HALF), ((), 1, NONE, HALF)), STILL)

    def test_sums_of_the_least(self):
        self.assert_loose(True, (((), 0, HALF, ONE), (A, 0, HALF, ONE)))
        for least in ((51, 100), (2, 3), ONE):
            self.assert_loose(False, (((), 0, HALF, ONE), (A, 0, least, ONE)))

    def test_sums_of_the_greatest(self):
        self.assert_loose(True, (((), 0, NONE, HALF), (A, 0, NONE, HALF)))
        for greatest in ((49, 100), (1, 3), NONE):
            self.assert_loose(False, (((), 0, NONE, HALF), (A, 0, NONE, greatest)))
        self.assert_loose(False, (((), 0, NONE, (10 ** 399 - 1, 10 ** 399)),))

    def test_least_and_greatest(self):
        for least, greatest in (((3, 4), HALF), (ONE, NONE), ((1, 4), (1, 5)), ((1, 10 ** 399), NONE)):
            self.assert_loose(False, (((), 0, NONE, ONE), (A, 0, least, greatest)))

    def test_shares(self):
        for least, greatest in (((-1, 2), ONE), (NONE, (3, 2)), ((-1, 2), (-1, 4)), ((-10 ** 399, 1), ONE), (NONE, (10 ** 399, 1)), ((2, 1), (3, 1)),
                                ((-1, 10 ** 399), NONE), (NONE, (10 ** 399 + 1, 10 ** 399))):
            self.assert_loose(False, (((), 0, NONE, ONE), (A, 0, least, greatest)))

    def test_shown(self):
        for shown in ((1,), ("a", None), (("a",),)):
            self.assert_loose(False, ((shown, 0, NONE, ONE),))


def corners(row):
    """All choices of the shares of a row in which all but one of them are least or greatest."""
    found = []
    for free in range(len(row)):
        others = [arc for at, arc in enumerate(row) if at != free]
        for picks in itertools.product((2, 3), repeat=len(others)):
            shares = [frac(arc[pick]) for arc, pick in zip(others, picks)]
            left = 1 - sum(shares)
            if frac(row[free][2]) <= left <= frac(row[free][3]):
                found.append((*shares[:free], left, *shares[free:]))
    return found


def bounds_by_corners(loose, goal, n):
    many = len(loose[1])
    low, high = [Fraction(0)] * many, [Fraction(0)] * many
    tables = [corners(row) for row in loose[1]]
    for _ in range(n):
        told = []
        for values, pick in ((low, min), (high, max)):
            told.append([pick(sum(share * (1 if goal in arc[0] else values[arc[1]]) for share, arc in zip(shares, row))
                              for shares in table) for row, table in zip(loose[1], tables)])
        low, high = told
    return tuple((pair(Fraction(a)), pair(Fraction(b))) for a, b in zip(low, high))


def random_loose(dice):
    many = dice.randint(1, 3)
    rows = []
    for _ in range(many):
        heads = sorted({(dice.choice(((), A, G, ("a", "g"))), dice.randrange(many)) for _ in range(dice.randint(1, 4))})
        weights = [dice.randint(1, 4) for _ in heads]
        row = []
        for head, weight in zip(heads, weights):
            share = Fraction(weight, sum(weights))
            row.append((*head, pair(share * Fraction(dice.randint(0, 3), 3)), pair(min(Fraction(1), share * Fraction(dice.randint(3, 6), 3)))))
        rows.append(tuple(row))
    return ("loose", tuple(rows))


def random_grouping(dice, web):
    return dice.choice([groups for groups in all_groupings(len(web[1]))])


class Bounds(unittest.TestCase):
    def test_by_hand(self):
        loose = ("loose", ((((), 0, NONE, HALF), ((), 1, (1, 4), ONE), (G, 0, (1, 8), (1, 4))), (((), 0, NONE, ONE), (G, 1, NONE, (1, 3)))))
        self.assertEqual(bounds(loose, "g", 0), ((NONE, NONE),) * 2)
        self.assertEqual(bounds(loose, "g", 1), (((1, 8), (1, 4)), (NONE, (1, 3))))
        # The least: 1/8, and the rest to state 1; the greatest: 1/4, the rest to state 1.
        self.assertEqual(bounds(loose, "g", 2), (((1, 8), (1, 2)), ((1, 8), HALF)))
        self.assertEqual(bounds(loose, "x", 60), ((NONE, NONE),) * 2)

    def test_shares_that_are_told(self):
        loose = ("loose", ((((), 0, HALF, HALF), (G, 0, HALF, HALF)),))
        for n in (0, 1, 2, 60):
            chance = (2 ** n - 1, 2 ** n)
            self.assertEqual(bounds(loose, "g", n), ((chance, chance),))

    def test_everything_is_open(self):
        loose = ("loose", ((((), 0, NONE, ONE), (G, 0, NONE, ONE)),))
        self.assertEqual(bounds(loose, "g", 1), ((NONE, ONE),))
        self.assertEqual(bounds(loose, "g", 60), ((NONE, ONE),))

    def test_against_the_corners(self):
        dice = random.Random(62)
        for k in range(250):
            loose = random_loose(dice)
            self.assertTrue(is_loose(loose))
            n = (0, 1, 2, 4, 7)[k % 5]
            self.assertEqual(bounds(loose, "g", n), bounds_by_corners(loose, "g", n))

    def test_60_ticks_and_60_states(self):
        rows = []
        for k in range(60):
            arcs = [((), (k + 1) % 60, (1, 3), (2, 3)), ((), (k + 7) % 60, (1, 5), (1, 2)), (G if k % 10 == 0 else A, k, (1, 7), (1, 3))]
            rows.append(tuple(sorted(arcs)))
        loose = ("loose", tuple(rows))
        self.assertTrue(is_loose(loose))
        for low, high in bounds(loose, "g", 60):
            self.assertLess(frac(low), frac(high))


class Loosen(unittest.TestCase):
    def test_by_hand(self):
        web = ("web", (
            (((), 1, HALF), (A, 2, HALF)),
            (((), 0, (1, 3)), ((), 2, (1, 3)), (G, 1, (1, 3))),
            (((), 1, (1, 4)), (A, 0, (3, 4))),
        ))
        self.assertEqual(loosen(web, (0, 1, 0)), ("loose", (
            (((), 1, (1, 4), HALF), (A, 0, HALF, (3, 4))),
            (((), 0, (2, 3), (2, 3)), (G, 1, (1, 3), (1, 3))),
        )))
        self.assertEqual(loosen(web, (0, 0, 0)), ("loose", (
            (((), 0, (1, 4), (2, 3)), (A, 0, NONE, (3, 4)), (G, 0, NONE, (1, 3))),
        )))

    def test_each_grouping_of_small_webs(self):
        dice = random.Random(621)
        for _ in range(80):
            web = random_web(dice, most=4)
            for groups in all_groupings(len(web[1])):
                loose = loosen(web, groups)
                self.assertTrue(is_loose(loose))
                self.assertEqual(len(loose[1]), max(groups) + 1)
                self.assertIs(judge_within(web, loose, groups), True)
                for row in loose[1]:
                    self.assertFalse([arc for arc in row if arc[3] == NONE])
            chances = [reach_within(web, "g", n) for n in (1, 3)]
            for n, told in zip((1, 3), chances):
                for state, (low, high) in enumerate(bounds(loose, "g", n)):
                    self.assertLessEqual(frac(low), frac(told[groups.index(state)]))

    def test_the_bounds_hold(self):
        dice = random.Random(622)
        for k in range(150):
            web = random_web(dice, most=4)
            groups = random_grouping(dice, web)
            for n in (0, 1, 5):
                told = bounds(loosen(web, groups), "g", n)
                for state, chance in enumerate(reach_within(web, "g", n)):
                    low, high = told[groups[state]]
                    self.assertTrue(frac(low) <= frac(chance) <= frac(high))

    def test_a_grouping_that_agrees_leaves_nothing_open(self):
        dice = random.Random(623)
        for _ in range(60):
            web = random_web(dice, most=4)
            groups = lumps(web)
            loose = loosen(web, groups)
            arcs = tuple(tuple((shown, target, share, share) for shown, target, share in row) for row in lumped(web, groups)[1])
            self.assertEqual(loose, ("loose", arcs))
            self.assertEqual(bounds(loose, "g", 6), tuple((chance, chance) for chance in reach_within(lumped(web, groups), "g", 6)))

    def test_nothing_tighter_is_taken(self):
        dice = random.Random(624)
        for _ in range(60):
            web = random_web(dice, most=4)
            groups = random_grouping(dice, web)
            rows = loosen(web, groups)[1]
            for p, row in enumerate(rows):
                for at, (shown, target, least, greatest) in enumerate(row):
                    more, less = frac(least) + Fraction(1, 1000), frac(greatest) - Fraction(1, 1000)
                    for arc in ((shown, target, pair(more), greatest), (shown, target, least, pair(less))):
                        changed = (*rows[:p], (*row[:at], arc, *row[at + 1:]), *rows[p + 1:])
                        self.assertIs(judge_within(web, ("loose", changed), groups), False)


class JudgeWithin(unittest.TestCase):
    WEB = ("web", (
        (((), 1, HALF), (A, 2, HALF)),
        (((), 0, (1, 3)), ((), 2, (1, 3)), (G, 1, (1, 3))),
        (((), 1, (1, 4)), (A, 0, (3, 4))),
    ))
    LOOSE = ("loose", (
        (((), 1, (1, 4), HALF), (A, 0, HALF, (3, 4))),
        (((), 0, (2, 3), (2, 3)), (G, 1, (1, 3), (1, 3))),
    ))

    def assert_taken(self, expected, places, loose=LOOSE, web=WEB):
        self.assertIs(judge_within(web, loose, places), expected)

    def test_right_places(self):
        self.assert_taken(True, (0, 1, 0))
        everything = ("loose", (tuple(sorted((shown, target, NONE, ONE) for shown in ((), A, G) for target in (0, 1))),) * 2)
        for places in itertools.product((0, 1), repeat=3):
            self.assert_taken(places[0] == 0, places, everything)

    def test_how_many(self):
        for places in ((), (0,), (0, 1), (0, 1, 0, 0), (0, 1, 0, 1)):
            self.assert_taken(False, places)

    def test_places_that_are_none(self):
        for wrong in (-10 ** 399, -2, -1, 2, 3, 10 ** 399):
            for at in range(3):
                self.assert_taken(False, (*(0, 1, 0)[:at], wrong, *(0, 1, 0)[at + 1:]))

    def test_numbers_below_0_that_would_fit(self):
        web = ("web", ((((), 0, ONE),), (((), 0, ONE),)))
        loose = ("loose", ((((), 0, ONE, ONE),), (((), 0, ONE, ONE),)))
        for place in range(-3, 4):
            self.assert_taken(place in (0, 1), (0, place), loose, web)

    def test_a_first_one_that_is_not_0(self):
        turned = ("loose", (
            (((), 1, (2, 3), (2, 3)), (G, 0, (1, 3), (1, 3))),
            (((), 0, (1, 4), HALF), (A, 1, HALF, (3, 4))),
        ))
        self.assertTrue(is_loose(turned))
        self.assert_taken(False, (1, 0, 1), turned)
        self.assert_taken(True, (0, 1, 0))

    def test_other_places(self):
        for places in itertools.product((0, 1), repeat=3):
            self.assert_taken(places == (0, 1, 0), places)

    def test_sums_below_and_above(self):
        first, second = self.LOOSE[1]
        for arc, expected in ((((), 1, (1, 3), HALF), False), (((), 1, (1, 4), (1, 3)), False), (((), 1, NONE, ONE), True),
                              (((), 1, (1, 4), (3, 4)), True), (((), 1, (26, 100), HALF), False)):
            self.assert_taken(expected, (0, 1, 0), ("loose", ((arc, first[1]), second)))

    def test_arcs_that_are_none(self):
        first, second = self.LOOSE[1]
        # The loose web has no arc for what a state does.
        self.assert_taken(False, (0, 1, 0), ("loose", (first, (((), 0, (2, 3), ONE),))))
        self.assert_taken(False, (0, 1, 0), ("loose", (first, (((), 0, (2, 3), ONE), (G, 0, NONE, ONE)))))
        # An arc that no state needs may be there, if its least is 0.
        for least, expected in ((NONE, True), ((1, 100), False)):
            more = (first[0], (("",), 0, least, ONE), first[1])
            self.assert_taken(expected, (0, 1, 0), ("loose", (more, second)))

    def test_loose_states_without_places(self):
        self.assert_taken(True, (0, 1, 0), ("loose", (*self.LOOSE[1], (((), 2, ONE, ONE),))))

    def test_random_places(self):
        dice = random.Random(625)
        taken = 0
        for _ in range(400):
            web = random_web(dice, most=3, arcs=2, marks=("a",), chance=0.3)
            other = random_web(dice, most=3, arcs=2, marks=("a",), chance=0.3)
            loose = loosen(other, random_grouping(dice, other))
            places = tuple(dice.randrange(len(loose[1])) for _ in web[1])
            fits = places[0] == 0
            for state, place in enumerate(places):
                for shown in ((), A, ("a", "a"), ("a", "a", "a")):
                    for q in range(len(loose[1])):
                        total = sum((frac(share) for told, target, share in web[1][state] if told == shown and places[target] == q), start=Fraction(0))
                        arcs = [arc for arc in loose[1][place] if arc[:2] == (shown, q)] or [(shown, q, NONE, NONE)]
                        fits = fits and frac(arcs[0][2]) <= total <= frac(arcs[0][3])
            self.assert_taken(fits, places, loose, web)
            if fits:
                taken += 1
                for n in (1, 4):
                    for chance, place in zip(reach_within(web, "a", n), places):
                        low, high = bounds(loose, "a", n)[place]
                        self.assertTrue(frac(low) <= frac(chance) <= frac(high))
        self.assertGreater(taken, 15)


if __name__ == "__main__":
    unittest.main()
