"""Point [49]: bends, their walks and means."""

import random
import unittest
from fractions import Fraction

from random_webs import frac, pair, random_bend, random_web
from walks_reference import walks

from meantrace.bends import bent_mean, bent_square, bent_walk, bent_web, is_bend
from meantrace.errors import BadNumber
from meantrace.reaching import reach_within
from meantrace.webs import is_web

ONE, NONE, HALF = (1, 1), (0, 1), (1, 2)
WEB = ("web", (
    (((), 0, (1, 2)), (("a",), 1, (1, 6)), (("g", "a"), 1, (1, 3))),
    (((), 0, (1, 4)), (("b", "g"), 0, (3, 4))),
))
BEND = ((2, 0, 3), (1, 4))


class IsBend(unittest.TestCase):
    def test_right_ones(self):
        for bend in (BEND, ((1, 0, 0), (0, 1)), ((0, 0, 10 ** 399), (5, 5)), ((7, 7, 7), (1, 0))):
            self.assertIs(is_bend(WEB, bend), True)

    def test_wrong_ones(self):
        for bend in ((), BEND[:1], (*BEND, (1,)), (BEND[0], ()), ((), BEND[1]), (BEND[0][:2], BEND[1]), ((2, 0), BEND[1]),
                     ((*BEND[0], 0), BEND[1]), (BEND[0], (1, 4, 1)), (BEND[0], (1,)), BEND[::-1]):
            self.assertIs(is_bend(WEB, bend), False)

    def test_integers_below_0(self):
        for number in (-1, -2, -10 ** 399):
            for at in range(3):
                row = (*BEND[0][:at], number, *BEND[0][at + 1:])
                self.assertIs(is_bend(WEB, (row, BEND[1])), False)
            self.assertIs(is_bend(WEB, (BEND[0], (1, number))), False)

    def test_all_of_them_0(self):
        self.assertIs(is_bend(WEB, ((0, 0, 0), BEND[1])), False)
        self.assertIs(is_bend(WEB, (BEND[0], (0, 0))), False)

    def test_a_bend_of_another_web(self):
        dice = random.Random(490)
        for _ in range(100):
            web, other = random_web(dice), random_web(dice)
            shape, told = [len(row) for row in web[1]], [len(row) for row in other[1]]
            self.assertIs(is_bend(web, random_bend(dice, other)), shape == told)
            self.assertIs(is_bend(web, random_bend(dice, web)), True)


class BentWeb(unittest.TestCase):
    def test_by_hand(self):
        self.assertEqual(bent_web(WEB, BEND), ("web", (
            (((), 0, (2, 5)), (("g", "a"), 1, (3, 5))),
            (((), 0, (1, 5)), (("b", "g"), 0, (4, 5))),
        )))
        self.assertEqual(bent_web(WEB, ((0, 9, 0), (2, 2))), ("web", (((("a",), 1, ONE),), (((), 0, HALF), (("b", "g"), 0, HALF)))))

    def test_random_bends(self):
        dice = random.Random(491)
        for _ in range(100):
            web = random_web(dice)
            bend = random_bend(dice, web, zeros=0.5)
            bent = bent_web(web, bend)
            self.assertTrue(is_web(bent))
            for row, numbers, fresh in zip(web[1], bend, bent[1]):
                arcs = [(shown, target, pair(Fraction(n, sum(numbers)))) for (shown, target, _), n in zip(row, numbers) if n]
                self.assertEqual(fresh, tuple(arcs))


class BentWalk(unittest.TestCase):
    def test_each_ticket(self):
        # The factors of state 0: 1/2 by 2/5, and 1/3 by 3/5.
        for ticket in range(5):
            told = ((0, 1), 1) if ticket < 2 else ((5, 9), 1)
            self.assertEqual(bent_walk(WEB, BEND, "g", (ticket,)), told)
        self.assertEqual(bent_walk(WEB, BEND, "g", (0, 1, 4)), ((125, 144), 3))
        self.assertEqual(bent_walk(WEB, BEND, "a", (1, 2)), ((25, 36), 2))
        self.assertEqual(bent_walk(WEB, BEND, "b", (2, 0, 3, 4)), self.by_factors("b", (2, 0, 3, 4)))
        # 1/3 by 3/5, and 3/4 by 4/5.
        self.assertEqual(bent_walk(WEB, BEND, "b", (2, 4)), ((25, 48), 2))

    def by_factors(self, goal, tickets):
        """The walk, with each arc standing as often as its integer tells."""
        state, weight = 0, Fraction(1)
        for used, ticket in enumerate(tickets):
            arcs = [at for at, number in enumerate(BEND[state]) for _ in range(number)]
            shown, target, share = WEB[1][state][arcs[ticket]]
            weight *= frac(share) / Fraction(BEND[state][arcs[ticket]], sum(BEND[state]))
            if goal in shown:
                return (pair(weight), used + 1)
            state = target
        return (NONE, len(tickets))

    def test_random_tickets(self):
        dice = random.Random(492)
        scored = 0
        for _ in range(300):
            tickets = []
            state = 0
            for _ in range(dice.randint(0, 6)):
                tickets.append(dice.randrange(5))
            told = self.by_factors("b", tickets)
            self.assertEqual(bent_walk(WEB, BEND, "b", tuple(tickets)), told)
            scored += told[0] != NONE
        self.assertGreater(scored, 50)

    def test_arcs_with_0_are_passed_over(self):
        web = ("web", (((("a",), 0, (1, 4)), (("b",), 0, (1, 4)), (("c",), 0, (1, 4)), (("d",), 0, (1, 4))),))
        bend = ((0, 2, 0, 1),)
        for goal, ticket, told in (("b", 0, ((3, 8), 1)), ("b", 1, ((3, 8), 1)), ("b", 2, (NONE, 1)), ("d", 2, ((3, 4), 1)),
                                   ("d", 1, (NONE, 1)), ("a", 0, (NONE, 1)), ("c", 2, (NONE, 1))):
            self.assertEqual(bent_walk(web, bend, goal, (ticket,)), told)

    def test_no_ticket(self):
        self.assertEqual(bent_walk(WEB, BEND, "g", ()), (NONE, 0))

    def test_tickets_out_of_their_bounds(self):
        for tickets, bad in (((5,), 5), ((-1,), -1), ((0, 5), 5), ((0, 0, -7), -7), ((10 ** 399,), 10 ** 399), ((6, -1), 6)):
            with self.assertRaises(BadNumber) as caught:
                bent_walk(WEB, BEND, "g", tickets)
            self.assertEqual(caught.exception.value, bad)
        for ticket in (4, 5):
            # State 1 has the integers 1 and 4.
            if ticket < 5:
                self.assertEqual(bent_walk(WEB, BEND, "b", (2, ticket))[1], 2)
            else:
                with self.assertRaises(BadNumber):
                    bent_walk(WEB, BEND, "b", (2, ticket))

    def test_tickets_behind_the_goal_are_not_looked_at(self):
        for rest in ((), (0,), (5,), (-1, 7), (10 ** 399,)):
            self.assertEqual(bent_walk(WEB, BEND, "g", (1, 2, *rest)), ((25, 36), 2))

    def test_a_weight_of_the_share_alone(self):
        plain = ((3, 1, 2), (1, 3))
        for tickets in ((4,), (0, 0, 5), (3, 1), (3, 3)):
            weight, _ = bent_walk(WEB, plain, "g", tickets)
            self.assertEqual(weight, ONE)


class Means(unittest.TestCase):
    def expected(self, web, bend, goal, n):
        """Mean and mean square over all walks by the bent shares."""
        mean = square = Fraction(0)
        factors = {}
        for state, (row, numbers) in enumerate(zip(web[1], bend)):
            for (shown, target, share), number in zip(row, numbers):
                if number:
                    factors[(state, shown, target)] = frac(share) / Fraction(number, sum(numbers))
        open_walks = [(Fraction(1), Fraction(1), 0)]
        bent = bent_web(web, bend)
        for _ in range(n):
            further = []
            for chance, weight, state in open_walks:
                for shown, target, share in bent[1][state]:
                    ahead, worth = chance * frac(share), weight * factors[(state, shown, target)]
                    if goal in shown:
                        mean += ahead * worth
                        square += ahead * worth ** 2
                    else:
                        further.append((ahead, worth, target))
            open_walks = further
        return pair(mean), pair(square)

    def test_by_hand(self):
        self.assertEqual(bent_mean(WEB, BEND, "g", 0), NONE)
        self.assertEqual(bent_square(WEB, BEND, "g", 0), NONE)
        self.assertEqual(bent_mean(WEB, BEND, "g", 1), (1, 3))
        self.assertEqual(bent_square(WEB, BEND, "g", 1), (5, 27))
        self.assertEqual(bent_mean(WEB, BEND, "g", 2), (1, 2))
        self.assertEqual(bent_mean(WEB, BEND, "x", 60), NONE)
        self.assertEqual(bent_square(WEB, BEND, "x", 60), NONE)

    def test_random_bends(self):
        dice = random.Random(493)
        for k in range(200):
            web = random_web(dice)
            bend = random_bend(dice, web, zeros=(0, 0.4)[k % 2])
            n = k % 5
            mean, square = self.expected(web, bend, "g", n)
            self.assertEqual(bent_mean(web, bend, "g", n), mean)
            self.assertEqual(bent_square(web, bend, "g", n), square)
            if k % 2 == 0:
                # Without zeros no walk is missed.
                self.assertEqual(mean, reach_within(web, "g", n)[0])
                self.assertEqual(bent_mean(web, bend, "g", 60), reach_within(web, "g", 60)[0])

    def test_by_the_scores_of_all_tickets(self):
        for n in (0, 1, 2, 3):
            rows = [()]
            for _ in range(n):
                rows = [(*row, ticket) for row in rows for ticket in range(5)]
            scores = [bent_walk(WEB, BEND, "g", row)[0] for row in rows]
            self.assertEqual(bent_mean(WEB, BEND, "g", n), pair(sum(map(frac, scores)) / 5 ** n))
            self.assertEqual(bent_square(WEB, BEND, "g", n), pair(sum(frac(score) ** 2 for score in scores) / 5 ** n))

    def test_the_bent_web_has_its_own_chances(self):
        dice = random.Random(494)
        for _ in range(60):
            web = random_web(dice)
            bend = random_bend(dice, web)
            chance = sum(part for part, told, _ in walks(bent_web(web, bend), 3) if any("g" in shown for shown in told))
            self.assertEqual(reach_within(bent_web(web, bend), "g", 3)[0], pair(chance + Fraction(0)))


if __name__ == "__main__":
    unittest.main()
