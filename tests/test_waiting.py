"""Point [41]: how long it takes until a mark is shown."""

import random
import unittest

from helpers import EXAMPLE
from random_webs import frac, pair, random_web
from walks_reference import chances_ever, least_ticks, solve, walks

from meantrace.chainof import chain_of
from meantrace.reaching import reach
from meantrace.waiting import judge_wait, wait
from meantrace.webs import web_of

HALF, ONE, NONE = (1, 2), (1, 1), (0, 1)
# 0 surely shows the mark, 1 too; 2 does by chance, 3 never.
WEB = ("web", (
    (((), 0, (1, 2)), ((), 1, (1, 4)), (("a",), 3, (1, 4))),
    (((), 0, (1, 3)), (("a", "b"), 1, (2, 3))),
    (((), 0, (1, 2)), ((), 3, (1, 2))),
    (((), 3, (1, 1)),),
))
PAPER = ((ONE, ONE, HALF, NONE), (1, 1, 2, 0), ((3, 1), (2, 1), None, None))


def mean_ticks(web, mark):
    """The mean numbers of ticks, by equations for all states that surely show the mark."""
    chances = chances_ever(web, mark)
    states = [state for state, chance in enumerate(chances) if chance == 1]
    matrix = []
    for state in states:
        line = [frac(NONE)] * len(states)
        line[states.index(state)] += 1
        for shown, target, share in web[1][state]:
            if mark not in shown:
                line[states.index(target)] -= frac(share)
        matrix.append(line)
    found = dict(zip(states, solve(matrix, [frac(ONE)] * len(states))))
    return tuple(pair(found[state]) if state in found else None for state in range(len(chances)))


class Wait(unittest.TestCase):
    def test_by_hand(self):
        self.assertEqual(wait(WEB, "a"), PAPER)
        coin = web_of(chain_of(EXAMPLE))
        self.assertEqual(wait(coin, "a"), ((ONE, ONE), (1, 1), ((2, 1), (2, 1))))
        self.assertEqual(wait(coin, "b"), ((NONE, NONE), (0, 0), (None, None)))

    def test_none_and_all(self):
        self.assertEqual(wait(WEB, "x"), ((NONE,) * 4, (0,) * 4, (None,) * 4))
        sure = ("web", ((((), 1, (1, 1)),), ((("a",), 0, (1, 1)),)))
        self.assertEqual(wait(sure, "a"), ((ONE, ONE), (2, 1), ((2, 1), (1, 1))))

    def test_a_state_that_shows_the_mark_at_once(self):
        web = ("web", (((("a",), 0, (1, 1)),),))
        self.assertEqual(wait(web, "a"), ((ONE,), (1,), (ONE,)))

    def test_200_states(self):
        rows = [(((), k + 1, HALF), ((), 0, HALF)) for k in range(199)]
        rows = [tuple(sorted(row)) for row in rows] + [((("a",), 0, ONE),)]
        times = wait(("web", tuple(rows)), "a")[2]
        # From state k it takes 2 ** 200 - 2 ** (k + 1) ticks to come to the last one, and one more.
        self.assertEqual(times[199], ONE)
        for k in (0, 1, 100, 198):
            self.assertEqual(times[k], (2 ** 200 - 2 ** (k + 1) + 1, 1))

    def test_random_webs(self):
        dice = random.Random(41)
        many = 0
        for k in range(300):
            web = random_web(dice, most=5, chance=(0.2, 0.5)[k % 2])
            values, ranks, times = wait(web, "a")
            self.assertEqual((values, ranks), reach(web, "a"))
            self.assertEqual(times, mean_ticks(web, "a"))
            self.assertEqual(values, tuple(pair(chance) for chance in chances_ever(web, "a")))
            self.assertIs(judge_wait(web, "a", (values, ranks, times)), True)
            many += len([time for time in times if time is not None])
        self.assertGreater(many, 200)

    def test_times_are_sums_over_walks(self):
        # The mean number of ticks is the sum, over all n from 0 on, of the chance that none of n ticks shows it.
        dice = random.Random(411)
        for _ in range(40):
            web = random_web(dice, most=3, chance=0.9)
            times = wait(web, "a")[2]
            if times[0] is not None:
                least = sum(chance for n in range(6) for chance, told, _ in walks(web, n)
                            if not any("a" in shown for shown in told))
                self.assertLessEqual(least, frac(times[0]))
                self.assertGreaterEqual(frac(times[0]), least_ticks(web, "a")[0])


class Judge(unittest.TestCase):
    def assert_taken(self, expected, values=PAPER[0], ranks=PAPER[1], times=PAPER[2], web=WEB, mark="a"):
        self.assertIs(judge_wait(web, mark, (values, ranks, times)), expected)

    def test_right_papers(self):
        self.assert_taken(True)
        self.assert_taken(True, ranks=(1, 1, 7, 0))
        self.assert_taken(True, ranks=(1, 2, 7, 0))
        self.assert_taken(True, (NONE,) * 4, (0,) * 4, (None,) * 4, mark="x")

    def test_times(self):
        for at in range(4):
            for time in (None, NONE, ONE, (2, 1), (3, 1), (-3, 1), (5, 2), (10 ** 399, 7)):
                times = (*PAPER[2][:at], time, *PAPER[2][at + 1:])
                self.assert_taken(times == PAPER[2], times=times)
        self.assert_taken(False, times=())
        self.assert_taken(False, times=PAPER[2][:3])
        self.assert_taken(False, times=(*PAPER[2], None))
        self.assert_taken(False, times=(None,) * 4)
        self.assert_taken(False, times=((3, 1), (2, 1), (1, 1), (1, 1)))

    def test_values_and_ranks(self):
        for at in range(4):
            for value in (NONE, HALF, ONE, (3, 2), (-1, 2)):
                values = (*PAPER[0][:at], value, *PAPER[0][at + 1:])
                self.assert_taken(values == PAPER[0], values)
            for rank in (-1, 0):
                ranks = (*PAPER[1][:at], rank, *PAPER[1][at + 1:])
                self.assert_taken(ranks == PAPER[1], ranks=ranks)
        self.assert_taken(False, ranks=(1, 1, 1, 0))
        self.assert_taken(False, (), (), ())
        self.assert_taken(False, PAPER[0][:3], PAPER[1][:3], PAPER[2][:3])
        self.assert_taken(False, (*PAPER[0], ONE), (*PAPER[1], 1), (*PAPER[2], ONE))
        self.assert_taken(False, PAPER[0][:3])
        self.assert_taken(False, (*PAPER[0], ONE))

    def test_values_that_are_wrong_with_times_that_fit_them(self):
        self.assert_taken(False, (HALF, ONE, HALF, NONE), times=(None, (2, 1), None, None))
        self.assert_taken(False, (ONE, ONE, ONE, NONE), times=((3, 1), (2, 1), (5, 2), None))

    def test_random_papers(self):
        dice = random.Random(412)
        for _ in range(300):
            web = random_web(dice, chance=0.4)
            values, ranks, times = wait(web, "a")
            at = dice.randrange(len(times))
            time = dice.choice((None, ONE, (2, 1), (3, 2), (4, 1)))
            wrong = (*times[:at], time, *times[at + 1:])
            self.assert_taken(wrong == times, values, ranks, wrong, web)


if __name__ == "__main__":
    unittest.main()
