"""Points [46] and [47]: fair and unfair plans."""

import itertools
import random
import unittest
from fractions import Fraction

from random_webs import fair_plan, frac, random_plan
from walks_reference import multiples

from meantrace.fairness import decide_plan, judge_fair
from meantrace.plans import is_plan, value_of, vector_of

ONE, NONE, HALF = (1, 1), (0, 1), (1, 2)
# A plan that splits a copy in two at the mark and gives one of two up without it.
SPLIT = ("plan", 2, "g", ("a",), (ONE, HALF), (
    (((2, ONE, 1), (2, ONE, 1)), ((2, ONE, 0),)),
    (((2, ONE, 1),), ((1, ONE, 0),)),
))


def rows_in_order(plan, longest):
    """All rows of letters, the shorter ones first, and of the same length in order."""
    letters = range(len(plan[3]) + 1)
    return [row for length in range(longest + 1) for row in itertools.product(letters, repeat=length)]


def first_unfair(plan):
    for row in rows_in_order(plan, len(plan[4])):
        if value_of(plan, row) != ONE:
            return row
    return None


def expected_paper(plan):
    """The vectors of the rows whose vectors are no sums of multiples of those of lesser rows."""
    vectors = []
    for row in rows_in_order(plan, len(plan[4])):
        vector = vector_of(plan, row)
        if multiples(vectors, vector) is None:
            vectors.append(vector)
    steps = []
    for vector in vectors:
        told = []
        for letter in range(len(plan[3]) + 1):
            ahead = [Fraction(0)] * len(vector)
            for stage, row in enumerate(plan[5]):
                for keep, factor, to in row[letter]:
                    ahead[to] += frac(vector[stage]) * Fraction(keep, plan[1]) * frac(factor)
            told.append(multiples(vectors, tuple((part.numerator, part.denominator) for part in ahead)))
        steps.append(tuple(told))
    return (tuple(vectors), tuple(steps))


def late_plan(many):
    """A plan of so many stages that is fair up to rows of so many letters."""
    rows = [(((2, ONE, min(stage + 1, many - 1)),),) for stage in range(many - 1)]
    return ("plan", 2, "g", (), (ONE,) * many, (*rows, (((2, (2, 1), many - 1),),)))


class Decide(unittest.TestCase):
    def test_by_hand(self):
        self.assertEqual(decide_plan(SPLIT), ("fair", (
            ((ONE, NONE), (NONE, (2, 1))),
            (((NONE, ONE), (ONE, NONE)), ((NONE, ONE), (ONE, NONE))),
        )))

    def test_the_empty_row(self):
        for score in (NONE, HALF, (-1, 1), (2, 1)):
            plan = ("plan", 2, "g", (), (score,), ((((2, ONE, 0),),),))
            self.assertEqual(decide_plan(plan), ("unfair", (), score))

    def test_the_shortest_row(self):
        plan = ("plan", 2, "g", ("a", "b"), (ONE, ONE), (
            (((2, ONE, 0),), ((2, ONE, 1),), ((2, ONE, 0),)),
            (((2, ONE, 0),), ((2, ONE, 1),), ((1, ONE, 1),)),
        ))
        self.assertEqual(decide_plan(plan), ("unfair", (1, 2), HALF))

    def test_of_several_the_least(self):
        plan = ("plan", 2, "g", ("a", "b"), (ONE,), ((((2, ONE, 0),), ((1, ONE, 0),), ()),))
        self.assertEqual(decide_plan(plan), ("unfair", (1,), HALF))
        plan = ("plan", 2, "g", ("a",), (ONE, ONE), (
            (((2, ONE, 1),), ((2, ONE, 1),)),
            (((2, ONE, 1),), ((2, (3, 1), 1),)),
        ))
        self.assertEqual(decide_plan(plan), ("unfair", (0, 1), (3, 1)))

    def test_as_long_as_there_are_stages(self):
        for many in range(1, 6):
            self.assertEqual(decide_plan(late_plan(many)), ("unfair", (0,) * many, (2, 1)))

    def test_lists_without_copies(self):
        plan = ("plan", 2, "g", ("a",), (ONE,), (((), ((2, ONE, 0),)),))
        self.assertEqual(decide_plan(plan), ("unfair", (0,), NONE))

    def test_random_plans(self):
        dice = random.Random(461)
        for k in range(300):
            plan = random_plan(dice) if k % 3 else fair_plan(dice)
            self.assertTrue(is_plan(plan))
            self.check(plan)

    def test_plans_that_are_nearly_fair(self):
        dice = random.Random(462)
        kinds = []
        for k in range(200):
            plan = fair_plan(dice, stages=4)
            stage = dice.randrange(len(plan[4]))
            letter = dice.randrange(len(plan[3]) + 1)
            rows = [list(row) for row in plan[5]]
            copies = rows[stage][letter]
            rows[stage][letter] = copies[:-1] if k % 2 else (*copies[:-1], (copies[-1][0], HALF, copies[-1][2]))
            plan = (*plan[:5], tuple(tuple(row) for row in rows))
            kinds.append(self.check(plan))
        self.assertGreater(kinds.count("unfair"), 80)
        # A stage that no row comes to can be whatever it is.
        self.assertGreater(kinds.count("fair"), 5)

    def check(self, plan):
        row = first_unfair(plan)
        if row is None:
            paper = expected_paper(plan)
            self.assertEqual(decide_plan(plan), ("fair", paper))
            self.assertIs(judge_fair(plan, paper), True)
            return "fair"
        self.assertEqual(decide_plan(plan), ("unfair", row, value_of(plan, row)))
        return "unfair"

    def test_fair_plans_with_1_to_5_stages(self):
        dice = random.Random(463)
        many = []
        for _ in range(100):
            plan = fair_plan(dice, stages=5)
            kind, paper = decide_plan(plan)
            self.assertEqual(kind, "fair")
            self.assertIs(judge_fair(plan, paper), True)
            many.append(len(paper[0]))
            self.assertEqual(paper[0][0], vector_of(plan, ()))
            for row in paper[1]:
                for step in row:
                    self.assertEqual(sum(frac(part) for part in step), 1)
        self.assertEqual(sorted(set(many)), [1, 2, 3, 4, 5])


class Judge(unittest.TestCase):
    PAPER = (((ONE, NONE), (NONE, (2, 1))), (((NONE, ONE), (ONE, NONE)), ((NONE, ONE), (ONE, NONE))))

    def assert_taken(self, expected, vectors, steps, plan=SPLIT):
        self.assertIs(judge_fair(plan, (vectors, steps)), expected)

    def test_right_papers(self):
        vectors, steps = self.PAPER
        self.assert_taken(True, vectors, steps)
        # A paper can have more vectors than are needed, also the same one twice.
        more = (*vectors, (ONE, NONE))
        third = ((NONE, ONE, NONE), (NONE, NONE, ONE))
        self.assert_taken(True, more, (*[tuple((*step, NONE) for step in row) for row in steps], third))
        half = (*vectors, (HALF, ONE))
        told = ((NONE, ONE, NONE), (ONE, NONE, NONE))
        self.assert_taken(True, half, (*[tuple((*step, NONE) for step in row) for row in steps], told))
        mixed = ((NONE, ONE, NONE), ((-1, 1), (-1, 1), (3, 1)))
        self.assert_taken(False, half, (*[tuple((*step, NONE) for step in row) for row in steps], mixed))

    def test_none_at_all(self):
        self.assert_taken(False, (), ())
        self.assert_taken(False, (), self.PAPER[1])
        self.assert_taken(False, self.PAPER[0], ())

    def test_a_vector_too_few(self):
        self.assert_taken(False, self.PAPER[0][:1], (((ONE,), (ONE,)),))
        self.assert_taken(False, self.PAPER[0][:1], self.PAPER[1])
        self.assert_taken(False, self.PAPER[0], self.PAPER[1][:1])
        self.assert_taken(False, self.PAPER[0], (*self.PAPER[1], self.PAPER[1][0]))
        self.assert_taken(False, (*self.PAPER[0], (ONE, NONE)), self.PAPER[1])

    def test_the_first_vector(self):
        vectors, steps = self.PAPER
        self.assert_taken(False, vectors[::-1], (((NONE, ONE), (ONE, NONE)), ((NONE, ONE), (ONE, NONE)))[::-1])
        self.assert_taken(False, (vectors[1], vectors[0]), (((ONE, NONE), (NONE, ONE)),) * 2)

    def test_wrong_parts(self):
        vectors, steps = self.PAPER
        for at in range(2):
            for place in range(2):
                for part in (NONE, ONE, HALF, (2, 1), (-1, 1), (10 ** 399, 3)):
                    wrong = (*vectors[at][:place], part, *vectors[at][place + 1:])
                    changed = (*vectors[:at], wrong, *vectors[at + 1:])
                    self.assert_taken(changed == vectors, changed, steps)
                    for letter in range(2):
                        step = steps[at][letter]
                        fresh = (*step[:place], part, *step[place + 1:])
                        row = (*steps[at][:letter], fresh, *steps[at][letter + 1:])
                        changed = (*steps[:at], row, *steps[at + 1:])
                        self.assert_taken(changed == steps, vectors, changed)

    def test_too_many_and_too_few_parts(self):
        vectors, steps = self.PAPER
        for wrong in ((ONE,), (), (ONE, NONE, NONE)):
            self.assert_taken(False, (wrong, vectors[1]), steps)
            self.assert_taken(False, (vectors[0], wrong), steps)
        for wrong in ((NONE,), (), (NONE, ONE, NONE)):
            self.assert_taken(False, vectors, ((wrong, steps[0][1]), steps[1]))
            self.assert_taken(False, vectors, (steps[0], (steps[1][0], wrong)))
        for wrong in ((), steps[0][:1], (*steps[0], steps[0][0])):
            self.assert_taken(False, vectors, (wrong, steps[1]))
            self.assert_taken(False, vectors, (steps[0], wrong))

    def test_a_step_whose_sum_is_not_1(self):
        # The same vector twice, taken once and back again: right but for the sum of the step.
        plan = ("plan", 2, "g", (), (ONE, NONE), ((((2, ONE, 0),),), (((2, ONE, 1),),)))
        vectors = ((ONE, NONE), (ONE, (1, 1)), (ONE, (-1, 1)))
        steps = (((ONE, NONE, NONE),), ((NONE, ONE, NONE),), ((NONE, NONE, ONE),))
        self.assert_taken(True, vectors, steps, plan)
        self.assert_taken(True, vectors, (((NONE, HALF, HALF),), *steps[1:]), plan)
        off = ("plan", 2, "g", (), (ONE,), ((((2, (2, 1), 0),),),))
        self.assert_taken(False, ((ONE,),), ((((2, 1),),),), off)
        self.assert_taken(False, ((ONE,), (ONE,)), (((ONE, ONE),), ((ONE, ONE),)), off)

    def test_one_step_of_several_whose_sum_is_not_1(self):
        plan = ("plan", 2, "g", ("a",), (ONE,), ((((2, ONE, 0),), ((2, (2, 1), 0),)),))
        self.assert_taken(False, ((ONE,),), (((ONE,), ((2, 1),)),), plan)
        plan = ("plan", 2, "g", ("a",), (ONE,), ((((2, HALF, 0),), ((2, ONE, 0),)),))
        self.assert_taken(False, ((ONE,),), (((HALF,), (ONE,)),), plan)

    def test_vectors_whose_value_is_not_1(self):
        keep = ((((2, ONE, 0),),),)  # one stage, one letter, one copy
        self.assert_taken(True, ((ONE,),), (((ONE,),),), ("plan", 2, "g", (), (ONE,), keep))
        for score in ((2, 1), NONE, HALF, (-1, 1)):
            self.assert_taken(False, ((ONE,),), (((ONE,),),), ("plan", 2, "g", (), (score,), keep))

    def test_unfair_plans_have_no_paper(self):
        dice = random.Random(471)
        for _ in range(100):
            plan = random_plan(dice)
            if first_unfair(plan) is None:
                continue
            vectors = [vector_of(plan, ())]
            for row in rows_in_order(plan, 3):
                if multiples(vectors, vector_of(plan, row)) is None:
                    vectors.append(vector_of(plan, row))
            if len(vectors) == len(plan[4]):
                # Steps that close, whatever the values are.
                steps = expected_paper(plan)[1]
                self.assert_taken(False, tuple(vectors), steps, plan)


if __name__ == "__main__":
    unittest.main()
