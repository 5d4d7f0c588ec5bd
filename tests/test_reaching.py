"""Points [39] and [40]: the chance that a mark is shown."""

import itertools
import random
import unittest

from helpers import EXAMPLE
from random_models import random_model
from random_webs import frac, pair, random_chain, random_web
from walks_reference import chances_ever, least_ticks, walks

from meantrace.chainof import chain_of
from meantrace.errors import TooMany
from meantrace.leaves import tree
from meantrace.reaching import judge_reach, reach, reach_within
from meantrace.shares import sum_of
from meantrace.tapes import weight
from meantrace.webs import is_web, web_of

HALF = (1, 2)
ONE, NONE = (1, 1), (0, 1)
# From 0 to 1 and 2; 1 shows the mark or goes back; 2 never shows it; 3 surely shows it.
WEB = ("web", (
    (((), 1, (1, 2)), ((), 2, (1, 4)), (("a",), 3, (1, 4))),
    (((), 0, (1, 2)), (("b", "a"), 1, (1, 2))),
    (((), 2, (1, 1)),),
    (((), 4, (1, 1)),),
    (((), 3, (1, 2)), (("a", "a"), 2, (1, 2))),
))
VALUES = ((2, 3), (5, 6), (0, 1), (1, 1), (1, 1))
RANKS = (1, 1, 0, 2, 1)


class Within(unittest.TestCase):
    def test_by_hand(self):
        self.assertEqual(reach_within(WEB, "a", 0), (NONE,) * 5)
        self.assertEqual(reach_within(WEB, "a", 1), ((1, 4), (1, 2), NONE, NONE, (1, 2)))
        self.assertEqual(reach_within(WEB, "a", 2), ((1, 2), (5, 8), NONE, (1, 2), (1, 2)))
        self.assertEqual(reach_within(WEB, "b", 1), (NONE, (1, 2), NONE, NONE, NONE))

    def test_marks_that_are_never_shown(self):
        for mark in ("c", "", "aa", "A"):
            self.assertEqual(reach_within(WEB, mark, 200), (NONE,) * 5)

    def test_a_mark_counts_once(self):
        web = ("web", (((("a", "a"), 0, (1, 1)),),))
        for n in (1, 2, 200):
            self.assertEqual(reach_within(web, "a", n), (ONE,))

    def test_many_ticks(self):
        coin = web_of(chain_of(EXAMPLE))
        for n in (1, 2, 17, 200):
            self.assertEqual(reach_within(coin, "a", n), ((2 ** n - 1, 2 ** n),) * 2)

    def test_against_the_leaves_of_trees(self):
        dice = random.Random(39)
        for k in range(120):
            chain = random_chain(dice)
            n = k % 4
            self.check_leaves(chain, dice.choice(("a", "g", "x")), n)

    def test_against_the_leaves_of_models(self):
        for seed in range(60):
            try:
                self.check_leaves(chain_of(random_model(seed)), "m", 1 + seed % 3)
            except TooMany:
                continue

    def check_leaves(self, chain, mark, n):
        total = NONE
        for digits, told, _ in tree(chain, n):
            if any(mark in shown for shown in told):
                total = sum_of(total, weight(chain[1], digits))
        self.assertEqual(reach_within(web_of(chain), mark, n)[0], total)

    def test_against_all_walks_from_all_states(self):
        dice = random.Random(391)
        for k in range(100):
            web = random_web(dice)
            self.assertTrue(is_web(web))
            n = k % 5
            found = reach_within(web, "a", n)
            for state in range(len(web[1])):
                hits = [chance for chance, told, _ in walks(web, n, state) if any("a" in shown for shown in told)]
                self.assertEqual(found[state], pair(sum(hits, start=frac(NONE))))


class Reach(unittest.TestCase):
    def test_by_hand(self):
        self.assertEqual(reach(WEB, "a"), (VALUES, RANKS))
        self.assertEqual(reach(WEB, "b"), (((1, 3), (2, 3), NONE, NONE, NONE), (2, 1, 0, 0, 0)))
        self.assertEqual(reach(WEB, "c"), ((NONE,) * 5, (0,) * 5))

    def test_several_closed_classes(self):
        web = ("web", (
            (((), 1, (1, 6)), ((), 2, (1, 3)), ((), 3, (1, 2))),
            (((), 1, (1, 2)), (("a",), 1, (1, 2))),
            (((), 2, (1, 1)),),
            (((), 3, (2, 3)), ((), 4, (1, 3))),
            ((("a", "b"), 3, (1, 1)),),
        ))
        self.assertEqual(reach(web, "a"), (((2, 3), ONE, NONE, ONE, ONE), (2, 1, 0, 2, 1)))
        self.assertEqual(reach(web, "b"), ((HALF, NONE, NONE, ONE, ONE), (3, 0, 0, 2, 1)))

    def test_ranks_go_by_all_arcs(self):
        row = tuple((((), k + 1, (1, 1)),) for k in range(5))
        web = ("web", (*row, (((), 0, HALF), (("a",), 5, HALF))))
        self.assertEqual(reach(web, "a"), ((ONE,) * 6, (6, 5, 4, 3, 2, 1)))

    def test_200_states(self):
        rows = [(((), k + 1, HALF), ((), 199, HALF)) for k in range(197)]
        rows += [(((), 198, HALF), ((), 199, HALF)), ((("a",), 0, (1, 1)),), (((), 199, (1, 1)),)]
        values, ranks = reach(("web", tuple(rows)), "a")
        self.assertEqual(values[0], (1, 2 ** 198))
        self.assertEqual(ranks[:199], tuple(range(199, 0, -1)))

    def test_a_line_that_is_walked_in_both_directions(self):
        # The chance of the ruin of a player with k of 199 coins.
        rows = [(((), 0, (1, 1)),)]
        rows += [(((), k - 1, HALF), ((), k + 1, HALF)) for k in range(1, 199)]
        rows += [((("won",), 199, (1, 1)),)]
        values, ranks = reach(("web", tuple(rows)), "won")
        for k in (0, 1, 7, 100, 199):
            self.assertEqual(frac(values[k]) * 199, k)
            self.assertEqual(ranks[k], 200 - k if k else 0)

    def test_random_webs(self):
        dice = random.Random(40)
        for k in range(300):
            web = random_web(dice, most=6, chance=(0.1, 0.3)[k % 2])
            values, ranks = reach(web, "a")
            self.assertEqual(values, tuple(pair(value) for value in chances_ever(web, "a")))
            self.assertEqual(ranks, tuple(least_ticks(web, "a")))
            self.assertIs(judge_reach(web, "a", (values, ranks)), True)
            # It is the limit from below of the chances within n ticks.
            late = reach_within(web, "a", 200)
            for value, chance in zip(values, late):
                self.assertGreaterEqual(frac(value), frac(chance))
                self.assertEqual(value == NONE, chance == NONE)


class Judge(unittest.TestCase):
    def assert_taken(self, expected, values, ranks, web=WEB, mark="a"):
        self.assertIs(judge_reach(web, mark, (values, ranks)), expected)

    def test_right_papers(self):
        self.assert_taken(True, VALUES, RANKS)
        for ranks in ((2, 1, 0, 2, 1), (9, 1, 0, 2, 1), (1, 2, 0, 9, 5), (1, 2, 0, 10 ** 399, 1)):
            self.assert_taken(True, VALUES, ranks)

    def test_wrong_values(self):
        for at in range(5):
            for value in ((-1, 2), (0, 1), (1, 3), (2, 3), (5, 6), (1, 1), (3, 2), (10 ** 399, 1), (1, 10 ** 399)):
                values = (*VALUES[:at], value, *VALUES[at + 1:])
                self.assert_taken(values == VALUES, values, RANKS)

    def test_wrong_ranks(self):
        for at in range(5):
            self.assert_taken(RANKS[at] == 0, VALUES, (*RANKS[:at], 0, *RANKS[at + 1:]))
            self.assert_taken(False, VALUES, (*RANKS[:at], -1, *RANKS[at + 1:]))
            self.assert_taken(False, VALUES, (*RANKS[:at], -10 ** 399, *RANKS[at + 1:]))
        self.assert_taken(False, VALUES, (1, 1, 1, 2, 1))
        self.assert_taken(False, VALUES, (1, 1, 0, 1, 1))
        self.assert_taken(False, VALUES, (1, 1, 0, 2, 2)[:3] + (1, 1))
        self.assert_taken(False, VALUES, (1, 1, 0, 3, 3)[:3] + (2, -2))
        ladder = ("web", ((((), 1, (1, 1)),), (((), 2, (1, 1)),), ((("a",), 0, (1, 1)),)))
        for ranks in itertools.product((-1, 0, 1, 2, 3, 4), repeat=3):
            fits = ranks[0] > ranks[1] > ranks[2] > 0
            self.assert_taken(fits, (ONE, ONE, ONE), ranks, ladder)

    def test_too_few_and_too_many(self):
        self.assert_taken(False, (), ())
        self.assert_taken(False, VALUES[:4], RANKS[:4])
        self.assert_taken(False, VALUES, RANKS[:4])
        self.assert_taken(False, VALUES[:4], RANKS)
        self.assert_taken(False, (*VALUES, ONE), RANKS)
        self.assert_taken(False, VALUES, (*RANKS, 1))
        self.assert_taken(False, (*VALUES, ONE), (*RANKS, 1))
        self.assert_taken(False, (), RANKS)
        self.assert_taken(False, VALUES, ())

    def test_a_ring_that_never_shows_the_mark(self):
        ring = ("web", ((((), 1, (1, 1)),), (((), 0, (1, 1)),), ((("a",), 2, (1, 1)),)))
        for value in (HALF, ONE, (1, 3)):
            for ranks in itertools.product(range(4), repeat=2):
                self.assert_taken(False, (value, value, ONE), (*ranks, 1), ring)
        self.assert_taken(True, (NONE, NONE, ONE), (0, 0, 1), ring)
        still = ("web", ((((), 0, (1, 1)),),))
        for value in (NONE, HALF, ONE):
            for rank in (0, 1, 2):
                self.assert_taken((value, rank) == (NONE, 0), (value,), (rank,), still)

    def test_the_mark_counts(self):
        self.assert_taken(False, VALUES, RANKS, mark="b")
        self.assert_taken(False, VALUES, RANKS, mark="c")
        self.assert_taken(True, (NONE,) * 5, (0,) * 5, mark="c")

    def test_random_papers(self):
        dice = random.Random(401)
        for _ in range(400):
            web = random_web(dice, chance=0.3)
            values, ranks = reach(web, "a")
            at = dice.randrange(len(ranks))
            rank = dice.choice((0, 1, 2, 3, 4, -1))
            ranks = (*ranks[:at], rank, *ranks[at + 1:])
            fits = all(
                (rank > 0) == (value != NONE) and rank >= 0 and (rank == 0 or any(
                    "a" in shown or 1 <= ranks[target] < rank for shown, target, _ in row))
                for rank, value, row in zip(ranks, values, web[1]))
            self.assert_taken(fits, values, ranks, web)
            value = dice.choice((NONE, ONE, HALF, (1, 3), (2, 3)))
            wrong = (*values[:at], value, *values[at + 1:])
            self.assert_taken(fits and wrong == values, wrong, ranks, web)


if __name__ == "__main__":
    unittest.main()
