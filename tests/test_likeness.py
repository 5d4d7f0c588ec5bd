"""Points [58] and [59]: webs that show the same."""

import itertools
import random
import unittest
from fractions import Fraction

from random_webs import frac, pair, random_web
from walks_reference import multiples, walks

from meantrace.likeness import alike, chance_of, judge_alike
from meantrace.lumps import lumped, lumps

ONE, NONE, HALF = (1, 1), (0, 1), (1, 2)
A, B = ("a",), ("b",)
# A coin told in one state and in two.
COIN = ("web", (((A, 0, HALF), (B, 0, HALF)),))
TWO = ("web", (((A, 1, HALF), (B, 0, HALF)), ((A, 0, (1, 4)), (A, 1, (1, 4)), (B, 0, HALF))))


def letters_of(web, other):
    return sorted({arc[0] for source in (web, other) for row in source[1] for arc in row})


def chances(web, n):
    """The chances of all rows of n shown."""
    found = {}
    for chance, told, _ in walks(web, n):
        found[told] = found.get(told, 0) + chance
    return found


def first_unlike(web, other, longest):
    for n in range(longest + 1):
        mine, theirs = chances(web, n), chances(other, n)
        rows = sorted(row for row in {**mine, **theirs} if mine.get(row, 0) != theirs.get(row, 0))
        if rows:
            return ("unlike", rows[0], pair(Fraction(mine.get(rows[0], 0))), pair(Fraction(theirs.get(rows[0], 0))))
    return None


def joint_vector(web, other, row):
    """For each state of both webs the chance of a row of shown that ends there."""
    vector = []
    for source in (web, other):
        ends = walks(source, len(row))
        for state in range(len(source[1])):
            vector.append(sum((chance for chance, told, end in ends if told == row and end == state), start=Fraction(0)))
    return tuple(map(pair, vector))


def expected_paper(web, other, longest):
    letters = letters_of(web, other)
    rows = [row for n in range(longest + 1) for row in itertools.product(letters, repeat=n)]
    found, vectors = [], []
    for row in rows:
        vector = joint_vector(web, other, row)
        if multiples(vectors, vector) is None:
            vectors.append(vector)
            found.append(row)
    steps = tuple(tuple(multiples(vectors, joint_vector(web, other, (*row, letter))) for letter in letters) for row in found)
    return (tuple(vectors), steps)


def renumbered(web, order):
    """The web with state order[k] as number k; state 0 stays."""
    places = {state: k for k, state in enumerate(order)}
    rows = [tuple(sorted((shown, places[target], share) for shown, target, share in web[1][state])) for state in order]
    return ("web", tuple(rows))


class ChanceOf(unittest.TestCase):
    def test_by_hand(self):
        self.assertEqual(chance_of(COIN, ()), ONE)
        self.assertEqual(chance_of(COIN, (A,)), HALF)
        self.assertEqual(chance_of(COIN, (A, B, A)), (1, 8))
        self.assertEqual(chance_of(COIN, (A, ())), NONE)
        self.assertEqual(chance_of(COIN, (("a", "b"),)), NONE)
        self.assertEqual(chance_of(COIN, (A,) * 300), (1, 2 ** 300))

    def test_several_walks_show_one_row(self):
        web = ("web", (((A, 0, (1, 3)), (A, 1, (2, 3))), ((A, 0, (1, 2)), (B, 1, (1, 2)))))
        self.assertEqual(chance_of(web, (A,)), ONE)
        self.assertEqual(chance_of(web, (A, A)), (2, 3))
        self.assertEqual(chance_of(web, (A, B)), (1, 3))

    def test_random_webs(self):
        dice = random.Random(58)
        for k in range(100):
            web = random_web(dice)
            for row, chance in chances(web, k % 4).items():
                self.assertEqual(chance_of(web, row), pair(chance))
            self.assertEqual(chance_of(web, ((("x",),) * (k % 4 + 1))), NONE)


class Alike(unittest.TestCase):
    def test_by_hand(self):
        self.assertEqual(alike(COIN, COIN), ("alike", (((ONE, ONE),), (((HALF,), (HALF,)),))))
        told = alike(COIN, TWO)
        self.assertEqual(told, ("alike", (
            ((ONE, ONE, NONE), (HALF, NONE, HALF)),
            (((NONE, ONE), (HALF, NONE)), (((1, 8), (1, 4)), ((1, 4), NONE))),
        )))
        self.assertIs(judge_alike(COIN, TWO, told[1]), True)

    def test_unlike_by_hand(self):
        other = ("web", (((A, 0, HALF), (B, 1, HALF)), ((A, 0, (1, 3)), (B, 1, (2, 3)))))
        self.assertEqual(alike(COIN, other), ("unlike", (B, A), (1, 4), (1, 6)))
        self.assertEqual(alike(other, COIN), ("unlike", (B, A), (1, 6), (1, 4)))
        more = ("web", (((A, 0, HALF), (("c",), 0, HALF)),))
        self.assertEqual(alike(COIN, more), ("unlike", (B,), HALF, NONE))
        self.assertEqual(alike(more, COIN), ("unlike", (B,), NONE, HALF))

    def test_shown_in_order(self):
        # () is less than ("a",), and ("a",) less than ("a", "a").
        first = ("web", (((("a", "a"), 0, HALF), (("b",), 0, HALF)),))
        second = ("web", ((((), 0, HALF), (("a", "b"), 0, HALF)),))
        self.assertEqual(alike(first, second), ("unlike", ((),), NONE, HALF))

    def test_they_differ_late(self):
        # The first web shows a once in five ticks, the second one once in six.
        ring = lambda many: ("web", tuple(((A if k == many - 1 else (), (k + 1) % many, ONE),) for k in range(many)))
        self.assertEqual(alike(ring(5), ring(6)), ("unlike", ((),) * 5, NONE, ONE))
        told = alike(ring(3), ring(6))
        row = ((),) * 3
        self.assertEqual(told, ("unlike", row, NONE, ONE))
        self.assertEqual(alike(ring(4), ring(4))[0], "alike")

    def test_as_late_as_can_be(self):
        # The row has at most one shown less than both have states together.
        short = ("web", (((A, 0, ONE),),))
        late = ("web", (*[((A, k + 1, ONE),) for k in range(4)], ((B, 4, ONE),)))
        self.assertEqual(alike(short, late), ("unlike", (A,) * 4 + (A,), ONE, NONE))

    def test_in_another_numbering(self):
        dice = random.Random(581)
        for _ in range(60):
            web = random_web(dice, most=5)
            order = [0] + dice.sample(range(1, len(web[1])), len(web[1]) - 1)
            other = renumbered(web, order)
            kind, paper = alike(web, other)
            self.assertEqual(kind, "alike")
            self.assertIs(judge_alike(web, other, paper), True)

    def test_states_that_are_never_come_to(self):
        more = ("web", (*COIN[1], ((("c",), 1, HALF), (("d",), 0, HALF))))
        kind, paper = alike(COIN, more)
        self.assertEqual((kind, len(paper[0])), ("alike", 1))
        # The letters of arcs that are not come to have steps, too.
        self.assertEqual(paper[1], (((HALF,), (HALF,), (NONE,), (NONE,)),))
        self.assertIs(judge_alike(COIN, more, paper), True)

    def test_a_state_in_two_halves(self):
        dice = random.Random(582)
        for _ in range(80):
            web = random_web(dice, most=4)
            many = len(web[1])
            half = dice.randrange(many)
            rows = []
            for row in (*web[1], web[1][half]):
                arcs = []
                for shown, target, share in row:
                    if target == half and dice.random() < 0.6:
                        arcs += [(shown, half, pair(frac(share) / 3)), (shown, many, pair(frac(share) * 2 / 3))]
                    else:
                        arcs.append((shown, target, share))
                rows.append(tuple(sorted(arcs)))
            other = ("web", tuple(rows))
            for left, right in ((web, other), (other, web)):
                kind, paper = alike(left, right)
                self.assertEqual(kind, "alike")
                self.assertIs(judge_alike(left, right, paper), True)
            self.assertEqual(alike(web, lumped(other, lumps(other)))[0], "alike")

    def test_random_webs(self):
        dice = random.Random(583)
        kinds = []
        for k in range(300):
            web = random_web(dice, most=2, marks=("a",), arcs=2, chance=0.7)
            other = random_web(dice, most=2, marks=("a",), arcs=2, chance=0.7)
            if k % 3 == 0:
                other = web
            told = alike(web, other)
            kinds.append(told[0])
            # They differ in fewer shown than both have states together, if at all.
            expected = first_unlike(web, other, len(web[1]) + len(other[1]) - 1)
            if expected is None:
                self.assertEqual(told, ("alike", expected_paper(web, other, len(web[1]) + len(other[1]) - 1)))
                self.assertIs(judge_alike(web, other, told[1]), True)
            else:
                self.assertEqual(told, expected)
        self.assertGreater(kinds.count("alike"), 100)
        self.assertGreater(kinds.count("unlike"), 50)


class Judge(unittest.TestCase):
    VECTORS, STEPS = alike(COIN, TWO)[1]

    def assert_taken(self, expected, vectors, steps, web=COIN, other=TWO):
        self.assertIs(judge_alike(web, other, (vectors, steps)), expected)

    def test_right_papers(self):
        self.assert_taken(True, self.VECTORS, self.STEPS)
        more = (*self.VECTORS, self.VECTORS[0])
        longer = tuple(tuple((*step, NONE) for step in row) for row in self.STEPS)
        self.assert_taken(True, more, (*longer, longer[0]))
        # The vector that stands twice can be taken in two parts.
        parts = tuple(tuple((pair(frac(step[0]) / 2), step[1], pair(frac(step[0]) / 2)) for step in row) for row in self.STEPS)
        self.assert_taken(True, more, (*parts, parts[0]))

    def test_wrong_parts(self):
        for at in range(2):
            for place in range(3):
                for part in (NONE, ONE, HALF, (1, 4), (-1, 2), (10 ** 399, 7)):
                    wrong = (*self.VECTORS[at][:place], part, *self.VECTORS[at][place + 1:])
                    vectors = (*self.VECTORS[:at], wrong, *self.VECTORS[at + 1:])
                    self.assert_taken(vectors == self.VECTORS, vectors, self.STEPS)
            for letter in range(2):
                for place in range(2):
                    for part in (NONE, ONE, HALF, (1, 4), (1, 8), (-1, 2)):
                        step = self.STEPS[at][letter]
                        row = (*self.STEPS[at][:letter], (*step[:place], part, *step[place + 1:]), *self.STEPS[at][letter + 1:])
                        steps = (*self.STEPS[:at], row, *self.STEPS[at + 1:])
                        self.assert_taken(steps == self.STEPS, self.VECTORS, steps)

    def test_how_many(self):
        vectors, steps = self.VECTORS, self.STEPS
        for wrong in ((), vectors[:1], (*vectors, vectors[1])):
            self.assert_taken(False, wrong, steps)
        for wrong in ((), steps[:1], (*steps, steps[0])):
            self.assert_taken(False, vectors, wrong)
        for wrong in ((), steps[0][:1], (*steps[0], steps[0][0])):
            self.assert_taken(False, vectors, (wrong, steps[1]))
            self.assert_taken(False, vectors, (steps[0], wrong))
        for wrong in ((), (NONE,), (NONE, ONE, NONE)):
            self.assert_taken(False, vectors, ((wrong, steps[0][1]), steps[1]))
            self.assert_taken(False, vectors, (steps[0], (steps[1][0], wrong)))
        for wrong in ((), (ONE, ONE), (ONE, ONE, NONE, NONE)):
            self.assert_taken(False, (wrong, vectors[1]), steps)
            self.assert_taken(False, (vectors[0], wrong), steps)
        self.assert_taken(False, (), ())

    def test_the_first_vector(self):
        vectors, steps = self.VECTORS, self.STEPS
        swapped = tuple(tuple(step[::-1] for step in row) for row in steps[::-1])
        self.assert_taken(False, vectors[::-1], swapped)
        twice = tuple(tuple(pair(frac(part) * 2) for part in vector) for vector in vectors)
        self.assert_taken(False, twice, steps)
        zero = ((NONE,) * 3,)
        self.assert_taken(False, zero, (((ONE,), (ONE,)),))
        self.assert_taken(True, (*vectors, *zero), (*tuple(tuple((*step, (5, 7)) for step in row) for row in steps), ((NONE, NONE, ONE),) * 2))

    def test_sums_of_both_parts(self):
        # The steps close, but the webs are not alike.
        other = ("web", (((A, 0, (1, 3)), (B, 0, (2, 3))),))
        vectors = ((ONE, ONE), (HALF, (1, 3)))
        steps = (((NONE, ONE), (ONE, (-1, 1))), (((-1, 6), (5, 6)), ((1, 6), (1, 6))))
        mixed = [[sum(frac(f) * frac(v[p]) for f, v in zip(step, vectors)) for p in (0, 1)] for row in steps for step in row]
        self.assertEqual(mixed, [[Fraction(1, 2), Fraction(1, 3)], [Fraction(1, 2), Fraction(2, 3)], [Fraction(1, 4), Fraction(1, 9)],
                                 [Fraction(1, 4), Fraction(2, 9)]])
        self.assert_taken(False, vectors, steps, COIN, other)

    def test_of_other_webs(self):
        other = ("web", (((A, 0, HALF), (B, 0, (1, 4)), (B, 1, (1, 4))), ((A, 0, HALF), (B, 0, HALF))))
        self.assert_taken(False, self.VECTORS, self.STEPS, COIN, other)
        self.assert_taken(False, self.VECTORS, self.STEPS, TWO, COIN)

    def test_random_webs_that_are_unlike_have_no_paper(self):
        dice = random.Random(591)
        tried = 0
        for _ in range(200):
            web, other = random_web(dice, most=2, arcs=2), random_web(dice, most=2, arcs=2)
            if alike(web, other)[0] == "unlike":
                tried += 1
                self.assert_taken(False, *expected_paper(web, other, 3), web, other)
        self.assertGreater(tried, 100)


if __name__ == "__main__":
    unittest.main()
