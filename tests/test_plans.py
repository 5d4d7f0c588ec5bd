"""Points [43] and [46]: plans, letters, vectors and values."""

import itertools
import random
import unittest
from fractions import Fraction

from random_webs import frac, pair, random_plan

from meantrace.plans import is_plan, letter_of, value_of, vector_of

ONE, NONE, HALF = (1, 1), (0, 1), (1, 2)
PLAN = (
    "plan", 3, "goal", ("a", "b"), ((1, 1), (1, 2)),
    (
        (((3, (1, 1), 0),), ((1, (3, 1), 1), (2, (1, 2), 0)), ()),
        (((3, (2, 1), 0), (3, (-1, 1), 1), (1, (1, 1), 1), (2, (1, 1), 1)), ((3, (1, 1), 1),), ((3, (1, 1), 1),)),
    ),
)


class IsPlan(unittest.TestCase):
    def assert_plan(self, expected, plan=PLAN, **changes):
        parts = dict(zip(("word", "base", "goal", "marks", "scores", "rows"), plan))
        parts.update(changes)
        self.assertIs(is_plan(tuple(parts.values())), expected)

    def test_right_ones(self):
        self.assert_plan(True)
        dice = random.Random(43)
        for _ in range(100):
            self.assert_plan(True, random_plan(dice, stages=5, most=4))
        self.assert_plan(True, ("plan", 2, "", (), ((0, 1),), (((),),)))

    def test_the_word(self):
        for word in ("", "Plan", "plans", "chain"):
            self.assert_plan(False, word=word)

    def test_the_base(self):
        for base in (4, 5, 6):
            self.assert_plan(True, base=base)
        for base in (-10 ** 399, -3, 0, 1, 2, 7, 10 ** 399):
            # With base 2 a keep of 3 is too great.
            self.assert_plan(False, base=base)
        self.assert_plan(True, ("plan", 2, "g", (), (ONE,), ((((2, ONE, 0),),),)))
        for base in (-1, 0, 1, 7):
            self.assert_plan(False, ("plan", base, "g", (), (ONE,), (((),),)))

    def test_goal_and_marks(self):
        for goal in ("a", "b"):
            self.assert_plan(False, goal=goal)
        for goal in ("", "c", "A", "l.a", "x" * 400):
            self.assert_plan(True, goal=goal)
        self.assert_plan(False, marks=("a", "a"))
        self.assert_plan(False, marks=("a", "goal"))
        self.assert_plan(True, marks=("a", ""))

    def test_how_many_marks(self):
        for many in range(6):
            marks = tuple("abcdef"[:many])
            plan = ("plan", 2, "g", marks, (ONE,), (((),) * (many + 1),))
            self.assert_plan(many <= 3, plan)
            for lists in range(7):
                self.assert_plan(many <= 3 and lists == many + 1, plan, rows=(((),) * lists,))
        self.assert_plan(False, marks=("a", "b", "a"), rows=(((),) * 4,) * 2)
        self.assert_plan(False, marks=("a",))
        self.assert_plan(False, marks=("a", "b", "c"))

    def test_stages(self):
        for many in range(8):
            plan = ("plan", 2, "g", (), (ONE,) * many, (((),),) * many)
            self.assert_plan(1 <= many <= 5, plan)
            for other in range(8):
                self.assert_plan(1 <= many <= 5 and many == other, plan, rows=(((),),) * other)
        self.assert_plan(False, scores=(ONE,))
        self.assert_plan(False, scores=(ONE,) * 3)
        self.assert_plan(False, scores=())
        self.assert_plan(False, rows=PLAN[5][:1])
        self.assert_plan(False, rows=())

    def test_lists(self):
        for many in range(8):
            lists = (((1, ONE, 0),) * many, (), ())
            self.assert_plan(many <= 4, rows=(lists, PLAN[5][1]))
            self.assert_plan(many <= 4, rows=(PLAN[5][0], lists[::-1]))
        self.assert_plan(False, rows=(PLAN[5][0], PLAN[5][1][:2]))
        self.assert_plan(False, rows=(PLAN[5][0][:2], PLAN[5][1]))
        self.assert_plan(False, rows=(PLAN[5][0], (*PLAN[5][1], ())))
        self.assert_plan(False, rows=((), PLAN[5][1]))

    def test_copies(self):
        for keep in (-10 ** 399, -1, 0, 1, 2, 3, 4, 10 ** 399):
            self.assert_plan(1 <= keep <= 3, rows=((((3, ONE, 0), (keep, ONE, 0)), (), ()), PLAN[5][1]))
            self.assert_plan(1 <= keep <= 3, rows=(PLAN[5][0], ((), (), ((keep, ONE, 0),))))
        for to in (-10 ** 399, -2, -1, 0, 1, 2, 3, 10 ** 399):
            self.assert_plan(to in (0, 1), rows=((((3, ONE, to),), (), ()), PLAN[5][1]))
            self.assert_plan(to in (0, 1), rows=(PLAN[5][0], ((), (), ((3, ONE, 0), (3, ONE, to)))))
        for factor in (NONE, (-7, 3), (10 ** 399, 1), (1, 10 ** 399)):
            self.assert_plan(True, rows=((((3, factor, 0),), (), ()), PLAN[5][1]))
            self.assert_plan(True, scores=(factor, factor))


class Letters(unittest.TestCase):
    def test_letters(self):
        for shown, letter in (((), 2), (("a",), 0), (("b",), 1), (("b", "a"), 0), (("a", "b"), 0), (("b", "b", "x"), 1),
                              (("goal",), 2), (("x", "goal", "b"), 1), (("x", ""), 2), (("a", "a"), 0)):
            self.assertEqual(letter_of(PLAN, shown), letter)

    def test_no_marks(self):
        plan = ("plan", 2, "g", (), (ONE,), (((),),))
        for shown in ((), ("a",), ("g",)):
            self.assertEqual(letter_of(plan, shown), 0)

    def test_three_marks_in_the_order_of_the_plan(self):
        plan = ("plan", 2, "g", ("z", "b", "a"), (ONE,), (((),) * 4,))
        for shown, letter in ((("a", "b", "z"), 0), (("a", "b"), 1), (("a",), 2), ((), 3)):
            self.assertEqual(letter_of(plan, shown), letter)


class Vectors(unittest.TestCase):
    def test_by_hand(self):
        self.assertEqual(vector_of(PLAN, ()), (ONE, NONE))
        self.assertEqual(vector_of(PLAN, (0,)), (ONE, NONE))
        self.assertEqual(vector_of(PLAN, (1,)), ((1, 3), ONE))
        self.assertEqual(vector_of(PLAN, (2,)), (NONE, NONE))
        self.assertEqual(vector_of(PLAN, (1, 0)), ((7, 3), NONE))
        self.assertEqual(vector_of(PLAN, (1, 1)), ((1, 9), (4, 3)))
        self.assertEqual(value_of(PLAN, ()), ONE)
        self.assertEqual(value_of(PLAN, (1,)), (5, 6))
        self.assertEqual(value_of(PLAN, (1, 0)), (7, 3))
        self.assertEqual(value_of(PLAN, (1, 1)), (7, 9))
        self.assertEqual(value_of(PLAN, (2, 0, 1, 2)), NONE)

    def test_the_score_of_stage_0(self):
        self.assertEqual(value_of(("plan", 2, "g", (), ((-5, 3),), (((),),)), ()), (-5, 3))

    def test_values_by_all_rows_of_copies(self):
        """The value is the sum over all rows of entries that follow each other from stage 0 on."""
        dice = random.Random(46)
        for _ in range(150):
            plan = random_plan(dice)
            letters = tuple(dice.randrange(len(plan[3]) + 1) for _ in range(dice.randint(0, 4)))
            ends = [(0, Fraction(1))]
            for letter in letters:
                ends = [(to, weight * Fraction(keep, plan[1]) * frac(factor))
                        for stage, weight in ends for keep, factor, to in plan[5][stage][letter]]
            vector = [sum((weight for to, weight in ends if to == stage), start=Fraction(0)) for stage in range(len(plan[4]))]
            self.assertEqual(vector_of(plan, letters), tuple(pair(part) for part in vector))
            self.assertEqual(value_of(plan, letters), pair(sum(weight * frac(plan[4][to]) for to, weight in ends) + Fraction(0)))

    def test_long_rows(self):
        plan = ("plan", 2, "g", (), (ONE,), ((((1, (1, 1), 0),),),))
        self.assertEqual(value_of(plan, (0,) * 300), (1, 2 ** 300))
        for length in range(4):
            for letters in itertools.product((0,), repeat=length):
                self.assertEqual(vector_of(plan, letters), ((1, 2 ** length),))


if __name__ == "__main__":
    unittest.main()
