"""Point [48]: the model in which a plan scores what a row of letters is worth."""

import itertools
import random
import unittest

from random_webs import fair_plan, random_plan

from meantrace.chainof import chain_of
from meantrace.checks import check
from meantrace.errors import TooLarge
from meantrace.estimates import plan_mean
from meantrace.fairness import decide_plan
from meantrace.forking import estimate_runs
from meantrace.plans import value_of
from meantrace.reaching import reach_within
from meantrace.webs import web_of
from meantrace.witnesses import witness

PLAN = ("plan", 3, "goal", ("m", "n"), ((1, 1),), ((((3, (1, 1), 0),), (), ()),))


class Witness(unittest.TestCase):
    def test_by_hand(self):
        self.assertEqual(witness(PLAN, ()), ("model", 2, (), (), (("process", "p", 0, (("mark", "goal"),), ()),)))
        self.assertEqual(witness(PLAN, (1, 2, 0)), ("model", 2, (), (), (("process", "p", 0, (
            ("mark", "n"), ("hold", 1), ("hold", 1), ("mark", "m"), ("hold", 1), ("mark", "goal")), ()),)))

    def test_the_greatest_letter_alone(self):
        self.assertEqual(witness(PLAN, (2, 2))[4][0][3], (("hold", 1), ("hold", 1), ("mark", "goal")))

    def test_letters_are_numbers_in_the_order_of_the_plan(self):
        plan = ("plan", 2, "a", ("z", "y", "x"), ((1, 1),), ((((2, (1, 1), 0),),) * 4,))
        once = witness(plan, (2, 1, 0, 3))[4][0][3]
        self.assertEqual([row for row in once if row[0] == "mark"], [("mark", name) for name in "xyza"])

    def test_it_is_let_with_at_most_60_statements(self):
        self.assertEqual(check(witness(PLAN, (2,) * 59)), (1 + 59 * 2 + 1,))
        check(witness(PLAN, (0,) * 29 + (2,)))
        for letters in ((2,) * 60, (0,) * 30):
            with self.assertRaises(TooLarge) as caught:
                check(witness(PLAN, letters))
            self.assertEqual(caught.exception.name, "statements")

    def test_rows_of_each_length(self):
        dice = random.Random(48)
        for k in range(60):
            plan = random_plan(dice) if k % 3 else fair_plan(dice)
            letters = range(len(plan[3]) + 1)
            for length in range(4):
                for row in itertools.product(letters, repeat=length):
                    self.check_mean(plan, row)

    def test_long_rows(self):
        dice = random.Random(481)
        for length in (10, 29):
            plan = random_plan(dice)
            self.check_mean(plan, tuple(dice.randrange(len(plan[3]) + 1) for _ in range(length)))

    def check_mean(self, plan, row):
        model = witness(plan, row)
        check(model)
        web = web_of(chain_of(model))
        self.assertEqual(reach_within(web, "g", len(row) + 1)[0], (1, 1))
        self.assertEqual(reach_within(web, "g", len(row))[0], (0, 1))
        self.assertEqual(plan_mean(web, plan, len(row) + 1), value_of(plan, row))
        # Later ticks change nothing: the goal is shown once.
        self.assertEqual(plan_mean(web, plan, min(len(row) + 5, 60)), value_of(plan, row))

    def test_the_row_that_shows_that_a_plan_is_unfair(self):
        dice = random.Random(482)
        many = 0
        for _ in range(80):
            plan = random_plan(dice)
            told = decide_plan(plan)
            if told[0] == "unfair":
                many += 1
                web = web_of(chain_of(witness(plan, told[1])))
                self.assertEqual(plan_mean(web, plan, len(told[1]) + 1), told[2])
                self.assertNotEqual(told[2], (1, 1))
        self.assertGreater(many, 40)

    def test_a_run_of_it(self):
        plan = ("plan", 2, "goal", ("m",), ((1, 1),), ((((2, (2, 1), 0),), ((2, (3, 1), 0),)),))
        self.assertEqual(estimate_runs(witness(plan, (0, 1, 1)), plan, 4, (), ()), ((18, 1), 0, 0))


if __name__ == "__main__":
    unittest.main()
