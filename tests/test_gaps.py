"""Points [50] and [51]: bends that miss the goal, and the best bend."""

import math
import random
import unittest
from fractions import Fraction

from random_webs import frac, pair, random_bend, random_web
from walks_reference import chances_ever

from meantrace.bends import bent_mean, bent_walk, bent_web, is_bend
from meantrace.gaps import best_bend, gap
from meantrace.reaching import reach, reach_within

ONE, NONE, HALF = (1, 1), (0, 1), (1, 2)


def line(many, last, extra=()):
    """A web in which each state leads to the next one, the last one has the arcs that are told."""
    rows = tuple((((), k + 1, ONE),) for k in range(many - 1))
    return ("web", (*rows, last, *extra))


def first_difference(web, bend, goal, most):
    for n in range(most + 1):
        missing = frac(reach_within(web, goal, n)[0]) - frac(bent_mean(web, bend, goal, n))
        if missing:
            return (n, pair(missing))
    return None


class Gap(unittest.TestCase):
    def test_none(self):
        web = ("web", ((((), 0, HALF), (("g",), 0, HALF)),))
        self.assertIsNone(gap(web, ((1, 1),), "g"))
        self.assertIsNone(gap(web, ((0, 5),), "x"))
        self.assertIsNone(gap(web, ((10 ** 40, 1),), "g"))

    def test_a_least_n_of_1(self):
        web = ("web", ((((), 0, (1, 3)), (("a", "g"), 0, (1, 3)), (("g",), 0, (1, 3))),))
        self.assertEqual(gap(web, ((1, 0, 1),), "g"), (1, (1, 3)))
        self.assertEqual(gap(web, ((1, 0, 0),), "g"), (1, (2, 3)))
        self.assertEqual(gap(web, ((1, 0, 1),), "a"), (1, (1, 3)))
        # Without the first arc the goal is still shown within two ticks: 2/3 at once, and 2/9.
        self.assertEqual(gap(web, ((0, 1, 1),), "g"), (2, (2, 9)))

    def test_an_arc_that_leads_to_the_goal_later(self):
        web = ("web", (
            (((), 1, HALF), ((), 2, HALF)),
            (((), 2, (1, 4)), (("g",), 0, (3, 4))),
            (((), 3, ONE),),
            (((), 1, ONE),),
        ))
        # Along the arc to 2 the goal comes in three ticks: 2, 3, 1.
        self.assertEqual(gap(web, ((1, 0), (1, 1), (1,), (1,)), "g"), (4, (3, 8)))
        self.assertEqual(gap(web, ((1, 1), (0, 1), (1,), (1,)), "g"), (5, (3, 32)))
        self.assertIsNone(gap(web, ((0, 1), (1, 1), (1,), (1,)), "x"))

    def test_an_arc_from_which_the_goal_is_never_shown(self):
        web = ("web", ((((), 0, (1, 4)), ((), 1, (1, 4)), (("g",), 0, HALF)), (((), 1, ONE),)))
        self.assertIsNone(gap(web, ((1, 0, 1), (1,)), "g"))
        self.assertEqual(gap(web, ((0, 0, 1), (1,)), "g"), (2, (1, 8)))

    def test_arcs_that_bent_walks_do_not_come_to(self):
        # State 1 is come to only behind the goal, state 2 not at all.
        web = ("web", (
            (((), 0, HALF), (("g",), 1, HALF)),
            (((), 0, HALF), (("g",), 0, HALF)),
            (((), 0, HALF), (("g",), 0, HALF)),
        ))
        self.assertIsNone(gap(web, ((1, 1), (1, 0), (1, 0)), "g"))
        self.assertEqual(gap(web, ((1, 1), (1, 0), (1, 0)), "x"), None)
        other = ("web", ((((), 0, HALF), (("a",), 1, HALF)), *web[1][1:]))
        self.assertEqual(gap(other, ((1, 1), (1, 0), (1, 0)), "g"), (2, (1, 4)))

    def test_states_that_only_arcs_with_0_lead_to(self):
        web = ("web", (
            (((), 0, HALF), ((), 1, HALF)),
            (((), 1, HALF), (("g",), 1, HALF)),
        ))
        # What is missing is missing at the arc to state 1, not at that of state 1.
        self.assertEqual(gap(web, ((1, 0), (1, 0)), "g"), (2, (1, 4)))

    def test_more_than_60(self):
        end = ((("a",), 0, HALF), (("g",), 0, HALF))
        web = line(70, end)
        self.assertEqual(gap(web, ((1,),) * 69 + ((1, 0),), "g"), (70, HALF))
        many = 200
        self.assertEqual(gap(line(many, end), ((1,),) * (many - 1) + ((1, 0),), "g"), (many, HALF))
        # A way of 99 to the arc, and a way of 101 behind it.
        rows = [(((), k + 1, ONE),) for k in range(98)]
        rows += [(((), 0, HALF), ((), 99, HALF))]
        rows += [(((), k + 1, ONE),) for k in range(99, 199)] + [((("g",), 0, ONE),)]
        bend = ((1,),) * 98 + ((1, 0),) + ((1,),) * 101
        self.assertEqual(gap(("web", tuple(rows)), bend, "g"), (200, HALF))

    def test_random_bends(self):
        dice = random.Random(50)
        found = []
        for k in range(400):
            web = random_web(dice, most=5, chance=(0.15, 0.4)[k % 2])
            bend = random_bend(dice, web, zeros=0.4)
            told = gap(web, bend, "g")
            self.assertEqual(told, first_difference(web, bend, "g", 14))
            found.append(told)
            if told is not None:
                self.assertGreater(frac(told[1]), 0)
        self.assertGreater(found.count(None), 50)
        self.assertGreater(len([told for told in found if told and told[0] > 2]), 20)


class BestBend(unittest.TestCase):
    def test_by_hand(self):
        web = ("web", (
            (((), 1, (1, 2)), ((), 2, (1, 6)), (("g",), 3, (1, 3))),
            (((), 3, (2, 3)), (("a", "g"), 0, (1, 3))),
            (((), 2, ONE),),
            (((), 2, HALF), ((), 3, HALF)),
        ))
        # The values are 1/2 * 1/3 + 1/3 = 1/2, and 1/3, 0, 0.
        self.assertEqual(best_bend(web, "g"), ((1, 0, 2), (0, 1), (1,), (1, 1)))
        self.assertEqual(bent_walk(web, best_bend(web, "g"), "g", (0, 0)), (HALF, 2))
        self.assertEqual(bent_walk(web, best_bend(web, "g"), "g", (2,)), (HALF, 1))

    def test_the_least_integers(self):
        web = ("web", (((("a", "g"), 0, (2, 7)), (("b", "g"), 0, (4, 7)), (("c",), 1, (1, 7))), ((("g",), 0, (1, 3)), (("h",), 2, (2, 3))), (((), 2, ONE),)))
        # In sevenths: 2, 4 and 1 * 1/3.
        self.assertEqual(best_bend(web, "g")[0], (6, 12, 1))
        self.assertEqual(best_bend(web, "g")[1:], ((1, 0), (1,)))

    def test_a_value_of_1(self):
        web = ("web", ((((), 0, (1, 4)), (("g",), 1, (3, 4))), (((), 1, ONE),)))
        self.assertEqual(best_bend(web, "g"), ((1, 3), (1,)))

    def test_a_value_of_0(self):
        web = ("web", ((((), 0, (1, 4)), (("a",), 1, (3, 4))), (((), 1, HALF), (("b",), 0, HALF))))
        self.assertEqual(best_bend(web, "g"), ((1, 1), (1, 1)))

    def test_random_webs(self):
        dice = random.Random(51)
        walked = 0
        for k in range(250):
            web = random_web(dice, most=5, chance=(0.15, 0.4)[k % 2])
            bend = best_bend(web, "g")
            self.assertTrue(is_bend(web, bend))
            values = chances_ever(web, "g")
            for row, numbers in zip(web[1], bend):
                weights = [frac(share) * (1 if "g" in shown else values[target]) for shown, target, share in row]
                if any(weights):
                    self.assertEqual(math.gcd(*numbers), 1)
                    for weight, number in zip(weights, numbers):
                        self.assertEqual(weight * sum(numbers), number * sum(weights))
                else:
                    self.assertEqual(numbers, (1,) * len(row))
            if values[0] == 0:
                continue
            self.assertEqual(reach(bent_web(web, bend), "g")[0][0], ONE)
            self.assertIsNone(gap(web, bend, "g"))
            walked += self.check_walks(dice, web, bend, values)
        self.assertGreater(walked, 300)

    def check_walks(self, dice, web, bend, values):
        """Each bent walk that shows the goal scores the value of state 0, none comes to a value of 0 ahead of it."""
        many = 0
        for _ in range(5):
            tickets, state = [], 0
            for _ in range(30):
                self.assertGreater(values[state], 0)
                at = dice.choice([at for at, number in enumerate(bend[state]) for _ in range(number)][:2000])
                tickets.append(sum(bend[state][:at]) + dice.randrange(bend[state][at]))
                shown, state, _ = web[1][state][at]
                if "g" in shown:
                    many += 1
                    self.assertEqual(bent_walk(web, bend, "g", tuple(tickets)), (pair(values[0]), len(tickets)))
                    break
        return many


if __name__ == "__main__":
    unittest.main()
