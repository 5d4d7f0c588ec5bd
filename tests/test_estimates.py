"""Points [44] and [45]: estimates over chains, and their means."""

import random
import unittest
from fractions import Fraction

from pairs_reference import deciding
from random_webs import fair_plan, frac, pair, random_chain, random_plan

from meantrace.errors import Dry, TooMany
from meantrace.estimates import estimate, plan_mean, plan_square
from meantrace.fairness import decide_plan
from meantrace.reaching import reach_within
from meantrace.webs import web_of

ONE, NONE, HALF = (1, 1), (0, 1), (1, 2)
# Nothing is shown, the mark, or the goal; from state 1 the goal comes for a 1.
CHAIN = ("chain", 2, (
    (((0,), (), 0), ((1, 0), ("a",), 1), ((1, 1), ("g", "a"), 0)),
    (((0,), (), 1), ((1,), ("b", "g"), 1)),
))
STILL = ("chain", 2, ((((), (), 0),),))


def plan_of(*lists, base=2, goal="g", marks=(), scores=None):
    """A plan from the lists of its rows, a row for each stage."""
    return ("plan", base, goal, marks, scores or (ONE,) * len(lists), lists)


KEEP_ALL = plan_of((((2, ONE, 0),),))
SPLIT = plan_of(
    (((2, HALF, 1), (2, HALF, 1)), ((2, ONE, 0),)),
    (((1, ONE, 0), (1, ONE, 1)), ((1, (2, 1), 1),)),
    marks=("a",),
)


class Estimates(unittest.TestCase):
    def test_the_goal_at_once(self):
        self.assertEqual(estimate(CHAIN, KEEP_ALL, 1, (1, 1), ()), (ONE, 2, 0))
        self.assertEqual(estimate(CHAIN, KEEP_ALL, 60, (1, 1), ()), (ONE, 2, 0))
        scored = plan_of((((2, ONE, 0),),), scores=((-7, 3),))
        self.assertEqual(estimate(CHAIN, scored, 3, (1, 1, 1, 1), ()), ((-7, 3), 2, 0))

    def test_no_copies(self):
        none = plan_of(((),))
        self.assertEqual(estimate(CHAIN, none, 1, (0,), ()), (NONE, 1, 0))
        self.assertEqual(estimate(CHAIN, none, 60, (0, 1), (1,)), (NONE, 1, 0))
        self.assertEqual(estimate(CHAIN, none, 60, (1, 0), ()), (NONE, 2, 0))

    def test_one_copy(self):
        self.assertEqual(estimate(CHAIN, KEEP_ALL, 3, (0, 1, 0, 1), ()), (ONE, 4, 0))
        self.assertEqual(estimate(CHAIN, KEEP_ALL, 2, (0, 1, 0, 1), ()), (NONE, 3, 0))
        self.assertEqual(estimate(CHAIN, KEEP_ALL, 5, (0, 0, 0, 0, 0), (0, 0)), (NONE, 5, 0))

    def test_weights(self):
        plan = plan_of((((2, (3, 2), 1),),), (((2, (-1, 5), 0),),), scores=(ONE, (10, 1)))
        self.assertEqual(estimate(CHAIN, plan, 1, (1, 1), ()), (ONE, 2, 0))
        self.assertEqual(estimate(CHAIN, plan, 2, (0, 1, 1), ()), ((15, 1), 3, 0))
        self.assertEqual(estimate(CHAIN, plan, 3, (0, 0, 1, 1), ()), ((-3, 10), 4, 0))
        self.assertEqual(estimate(CHAIN, plan, 4, (0, 0, 0, 1, 1), ()), ((-9, 2), 5, 0))

    def test_copies_in_order(self):
        # Four copies at the mark, which go on in the order of the list.
        plan = plan_of(
            (((2, (1, 1), 0), (2, (2, 1), 1), (2, (4, 1), 1), (2, (8, 1), 0)), ((2, ONE, 0),)),
            ((), ((2, (100, 1), 0),)),
            marks=("a",), scores=(ONE, (3, 1)),
        )
        start = (1, 0)
        for bits in range(16):
            digits = tuple(bits >> k & 1 for k in range(4))
            score = sum(part for part, bit in zip((1, 6, 12, 8), digits) if bit)
            self.assertEqual(estimate(CHAIN, plan, 2, (*start, *digits), ()), ((score, 1), 6, 0))
        # The second copy has the stage 1 in the tick behind, so its weight is multiplied by 100.
        self.assertEqual(estimate(CHAIN, plan, 3, (1, 0, 0, 0, 1, 0, 1, 1, 1), ()), ((1 + 12 + 200 + 8, 1), 9, 0))

    def test_coins(self):
        plan = plan_of((((1, ONE, 0), (2, (2, 1), 0), (3, (4, 1), 0)),), base=3)
        tape = (0, 1, 1, 1, 1, 1, 1)
        for coins, score, read in (((0, 0), 7, 7), ((0, 1), 7, 7), ((0, 2), 5, 5), ((1, 0), 6, 5), ((2, 1), 6, 5), ((2, 2), 4, 3)):
            self.assertEqual(estimate(CHAIN, plan, 2, tape, coins), ((score, 1), read, 2))
            self.assertEqual(estimate(CHAIN, plan, 2, tape, (*coins, 0, 0)), ((score, 1), read, 2))

    def test_a_copy_that_is_surely_made_tosses_nothing(self):
        plan = plan_of((((3, ONE, 0),),), base=3)
        self.assertEqual(estimate(CHAIN, plan, 2, (0, 0), ()), (NONE, 2, 0))

    def test_all_given_up(self):
        plan = plan_of((((1, ONE, 0), (1, ONE, 0), (1, ONE, 0)),))
        self.assertEqual(estimate(CHAIN, plan, 60, (0,), (1, 1, 1)), (NONE, 1, 3))
        self.assertEqual(estimate(CHAIN, plan, 60, (0, 0, 0), (1, 0, 0, 1, 1, 1, 1, 1, 1)), (NONE, 3, 9))

    def test_tosses_come_before_the_next_copy_reads(self):
        # With the goal no coin is tossed; the copies of a tick read and toss one after the other.
        plan = plan_of((((2, ONE, 0), (1, ONE, 0)),))
        self.assertEqual(estimate(CHAIN, plan, 2, (0, 1, 1, 0), (0, 1)), (ONE, 4, 2))
        self.assertEqual(estimate(CHAIN, plan, 2, (0, 1, 1), (1,)), (ONE, 3, 1))

    def test_nothing_is_read(self):
        self.assertEqual(estimate(STILL, KEEP_ALL, 60, (), ()), (NONE, 0, 0))
        self.assertEqual(estimate(("chain", 3, ((((), ("g",), 0),),)), KEEP_ALL, 60, (), ()), (ONE, 0, 0))

    def test_the_goal_of_another_name(self):
        plan = plan_of((((2, ONE, 0),),), goal="b")
        self.assertEqual(estimate(CHAIN, plan, 2, (1, 0, 1), ()), (ONE, 3, 0))
        self.assertEqual(estimate(CHAIN, plan, 2, (1, 1, 0), ()), (NONE, 3, 0))

    def test_the_letter_ahead_of_others(self):
        plan = plan_of((((2, (3, 1), 0),), ((2, (5, 1), 0),), ((2, ONE, 0),)), marks=("x", "a"))
        chain = ("chain", 2, ((((0,), ("a", "x"), 1), ((1,), ("a", "a"), 1)), (((), ("g",), 1),)))
        self.assertEqual(estimate(chain, plan, 2, (0,), ()), ((3, 1), 1, 0))
        self.assertEqual(estimate(chain, plan, 2, (1,), ()), ((5, 1), 1, 0))


class ManyCopies(unittest.TestCase):
    def assert_too_many(self, chain, plan, ticks):
        with self.assertRaises(TooMany) as caught:
            estimate(chain, plan, ticks, (), ())
        self.assertEqual(caught.exception.name, "copies")

    def test_64_and_more(self):
        four = plan_of((((2, ONE, 0),) * 4,))
        for ticks in (1, 2, 3):
            self.assertEqual(estimate(STILL, four, ticks, (), ()), (NONE, 0, 0))
        for ticks in (4, 5, 60):
            self.assert_too_many(STILL, four, ticks)
        two = plan_of((((2, ONE, 0),) * 2,))
        self.assertEqual(estimate(STILL, two, 6, (), ()), (NONE, 0, 0))
        self.assert_too_many(STILL, two, 7)
        self.assert_too_many(STILL, two, 8)

    def test_65(self):
        # In each of 16 ticks the copy at stage 0 makes one more at stage 1; four ticks make 64 of 16.
        grow = plan_of((((2, ONE, 0), (2, ONE, 1)),), (((2, ONE, 1),),))
        self.assertEqual(estimate(STILL, grow, 60, (), ()), (NONE, 0, 0))
        faster = plan_of((((2, ONE, 0), (2, ONE, 1), (2, ONE, 1)),), (((2, ONE, 1),),))
        self.assertEqual(estimate(STILL, faster, 31, (), ()), (NONE, 0, 0))
        self.assert_too_many(STILL, faster, 32)
        three = plan_of((((2, ONE, 0), (2, ONE, 1), (2, ONE, 1), (2, ONE, 1)),), (((2, ONE, 1),),))
        self.assertEqual(estimate(STILL, three, 21, (), ()), (NONE, 0, 0))
        self.assert_too_many(STILL, three, 22)

    def test_copies_that_are_done_do_not_count(self):
        chain = ("chain", 2, ((((), (), 1),), (((), (), 2),), (((), (), 3),), (((), ("g",), 0),)))
        four = plan_of((((2, (1, 4), 0),) * 4,))
        self.assertEqual(estimate(chain, four, 60, (), ()), (ONE, 0, 0))

    def test_it_is_raised_behind_the_tick(self):
        # The tape ends in the tick that makes too many copies, or in the one behind it.
        chain = ("chain", 2, ((((0,), (), 0), ((1,), (), 0)),))
        four = plan_of((((2, ONE, 0),) * 4,))
        need = 1 + 4 + 16 + 64
        for length in (need, need + 1):
            with self.assertRaises(TooMany):
                estimate(chain, four, 4, (0,) * length, ())
        with self.assertRaises(Dry):
            estimate(chain, four, 4, (0,) * (need - 1), ())


class Ends(unittest.TestCase):
    def test_at_each_place(self):
        dice = random.Random(44)
        for k in range(80):
            chain, plan = random_chain(dice, marks=("a", "b", "c", "g")), random_plan(dice)
            tape = tuple(dice.randrange(chain[1]) for _ in range(400))
            coins = tuple(dice.randrange(plan[1]) for _ in range(400))
            try:
                score, read, tossed = estimate(chain, plan, 1 + k % 5, tape, coins)
            except TooMany:
                continue
            self.assertEqual(estimate(chain, plan, 1 + k % 5, tape[:read], coins[:tossed]), (score, read, tossed))
            for short in range(read):
                self.assert_dry("tape", chain, plan, 1 + k % 5, tape[:short], coins)
            for short in range(tossed):
                self.assert_dry("coins", chain, plan, 1 + k % 5, tape, coins[:short])

    def assert_dry(self, name, *told):
        with self.assertRaises(Dry) as caught:
            estimate(*told)
        self.assertEqual(caught.exception.name, name)

    def test_which_one_is_missing_first(self):
        plan = plan_of((((1, ONE, 0), (2, ONE, 0)),))
        self.assert_dry("tape", CHAIN, plan, 2, (), ())
        self.assert_dry("tape", CHAIN, plan, 2, (1,), ())
        self.assert_dry("coins", CHAIN, plan, 2, (0,), ())
        self.assert_dry("coins", CHAIN, plan, 1, (0,), ())
        self.assert_dry("tape", CHAIN, plan, 2, (0,), (0,))
        self.assert_dry("coins", CHAIN, plan, 2, (0, 0, 0), (1,))
        self.assert_dry("tape", CHAIN, plan, 2, (0, 0), (0, 1))


class Means(unittest.TestCase):
    def check(self, chain, plan, ticks):
        found = deciding(lambda tape, coins: estimate(chain, plan, ticks, tape, coins), chain[1], plan[1])
        self.assertEqual(sum(weight for weight, _ in found), 1)
        web = web_of(chain)
        mean = sum(weight * frac(score) for weight, score in found)
        square = sum(weight * frac(score) ** 2 for weight, score in found)
        self.assertEqual(plan_mean(web, plan, ticks), pair(mean + Fraction(0)))
        self.assertEqual(plan_square(web, plan, ticks), pair(square + Fraction(0)))
        return len(found)

    def test_by_hand(self):
        web = web_of(CHAIN)
        self.assertEqual(plan_mean(web, KEEP_ALL, 1), (1, 4))
        self.assertEqual(plan_square(web, KEEP_ALL, 1), (1, 4))
        self.assertEqual(plan_mean(web, KEEP_ALL, 2), (1, 2))
        self.assertEqual(plan_square(web, plan_of((((2, ONE, 0),),), scores=((-2, 3),)), 2), (2, 9))
        for ticks in (1, 2, 3):
            self.check(CHAIN, SPLIT, ticks)

    def test_random_plans_and_chains(self):
        dice = random.Random(45)
        pairs = 0
        for k in range(150):
            chain = random_chain(dice, most=3, marks=("a", "b", "c", "g"), splits=1)
            pairs += self.check(chain, random_plan(dice), 1 + k % 2)
        for _ in range(40):
            pairs += self.check(random_chain(dice, most=3, base=2, marks=("a", "g"), splits=1), random_plan(dice, most=1), 4)
        self.assertGreater(pairs, 5000)

    def test_copies_go_on_apart_from_the_same_state(self):
        # Two copies go on from the same state: both see the goal together only by chance.
        chain = ("chain", 2, ((((0,), (), 1), ((1,), (), 2)), (((), ("g",), 1),), (((0,), (), 2), ((1,), ("g",), 2))))
        two = plan_of((((2, ONE, 0), (2, ONE, 0)),))
        self.check(chain, two, 2)
        # (2, 2) for state 1; for state 2 each of both copies with a half.
        self.assertEqual(plan_mean(web_of(chain), two, 2), (3, 2))
        self.assertEqual(plan_square(web_of(chain), two, 2), (11, 4))

    def test_fair_plans_have_the_right_mean(self):
        dice = random.Random(451)
        for _ in range(60):
            chain, plan = random_chain(dice, marks=("a", "b", "c", "g")), fair_plan(dice)
            self.assertEqual(decide_plan(plan)[0], "fair")
            web = web_of(chain)
            for ticks in (1, 2, 5, 60):
                mean = plan_mean(web, plan, ticks)
                self.assertEqual(mean, reach_within(web, "g", ticks)[0])
                # The spread is not below 0.
                self.assertGreaterEqual(frac(plan_square(web, plan, ticks)), frac(mean) ** 2)

    def test_unfair_plans_do_not_on_some_chain(self):
        dice = random.Random(452)
        off = 0
        for _ in range(100):
            plan = random_plan(dice)
            row = decide_plan(plan)
            chain = random_chain(dice, marks=("a", "b", "c", "g"))
            if row[0] == "unfair" and plan_mean(web_of(chain), plan, 4) != reach_within(web_of(chain), "g", 4)[0]:
                off += 1
        self.assertGreater(off, 30)

    def test_more_than_64_copies(self):
        rows = tuple((((), (), k + 1),) for k in range(59)) + ((((), ("g",), 59),),)
        four = plan_of((((2, (1, 4), 0),) * 4,))
        web = web_of(("chain", 2, rows))
        self.assertEqual(plan_mean(web, four, 60), ONE)
        self.assertEqual(plan_square(web, four, 60), ONE)
        self.assertEqual(plan_mean(web, four, 59), NONE)
        thrown = plan_of((((1, HALF, 0),) * 4,))
        self.assertEqual(plan_mean(web, thrown, 60), ONE)

    def test_squares_of_branching_by_hand(self):
        # In each tick each copy makes two, each of them with a half: the mean is 1, the spread n / 2.
        branching = plan_of((((1, ONE, 0), (1, ONE, 0)),))
        for ticks in (1, 2, 10, 60):
            rows = tuple((((), (), k + 1),) for k in range(ticks - 1)) + ((((), ("g",), 0),),)
            web = web_of(("chain", 5, rows))
            self.assertEqual(plan_mean(web, branching, ticks), ONE)
            self.assertEqual(frac(plan_square(web, branching, ticks)), 1 + Fraction(ticks - 1, 2))

    def test_only_the_ticks_count(self):
        web = web_of(CHAIN)
        means = [plan_mean(web, KEEP_ALL, ticks) for ticks in range(1, 61)]
        self.assertEqual(means, [reach_within(web, "g", ticks)[0] for ticks in range(1, 61)])


if __name__ == "__main__":
    unittest.main()
