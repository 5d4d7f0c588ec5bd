"""Point [38]: webs."""

import random
import unittest

from helpers import EXAMPLE
from random_models import random_model

from meantrace.chainof import chain_of
from meantrace.errors import TooMany
from meantrace.leaves import tree
from meantrace.shares import product_of, sum_of
from meantrace.tapes import weight
from meantrace.webs import is_web, web_of

HALF = (1, 2)
ROW = (((), 0, (1, 3)), ((), 1, (1, 6)), (("a",), 0, (1, 4)), (("a", "b"), 0, (1, 4)))
STILL = (((), 0, (1, 1)),)


class IsWeb(unittest.TestCase):
    def assert_web(self, expected, *rows):
        self.assertIs(is_web(("web", rows)), expected)

    def test_right_ones(self):
        self.assert_web(True, STILL)
        self.assert_web(True, ROW, STILL)
        self.assert_web(True, ROW, ((("b", "a"), 1, (1, 1)),))

    def test_the_word(self):
        for word in ("chain", "", "Web", "webs"):
            self.assertIs(is_web((word, (STILL,))), False)

    def test_rows(self):
        self.assert_web(False)
        for many in (1, 2, 199, 200):
            self.assert_web(True, *[(((), many - 1, (1, 1)),)] * many)
        for many in (201, 300):
            self.assert_web(False, *[STILL] * many)
        self.assert_web(False, STILL, ())
        self.assert_web(False, ())

    def test_nexts(self):
        for target in (-1000, -2, -1, 2, 3, 10 ** 400 - 1):
            self.assert_web(False, (*ROW[:3], (("a", "b"), target, (1, 4))), STILL)
            self.assert_web(False, ROW, (((), target, (1, 1)),))
        self.assert_web(False, ROW)

    def test_the_order(self):
        self.assert_web(False, ROW[::-1], STILL)
        for at in range(3):
            self.assert_web(False, (*ROW[:at], ROW[at + 1], ROW[at], *ROW[at + 2:]), STILL)

    def test_the_same_shown_and_next(self):
        self.assert_web(False, (((), 0, (1, 3)), ((), 0, (2, 3))))
        self.assert_web(False, (((), 0, HALF), ((), 0, HALF)))
        self.assert_web(True, (((), 0, (1, 3)), ((), 1, (2, 3))), STILL)
        self.assert_web(True, (((), 0, (1, 3)), (("",), 0, (2, 3))))

    def test_shares(self):
        for share in ((0, 1), (-1, 4), (1, 3), (1, 5), (2, 1), (10 ** 399, 1), (1, 10 ** 399)):
            self.assert_web(False, (*ROW[:3], (("a", "b"), 0, share)), STILL)
        self.assert_web(False, (((), 0, (1, 1)), (("a",), 0, (0, 1))))
        self.assert_web(False, (((), 0, (0, 1)), (("a",), 0, (1, 1))))
        self.assert_web(False, (((), 0, (3, 2)), (("a",), 0, (-1, 2))))
        self.assert_web(False, (((), 0, (1, 2)),))
        self.assert_web(False, (((), 0, (0, 1)),))
        long = 10 ** 399
        self.assert_web(True, (((), 0, (1, long)), (("a",), 0, (long - 1, long))))
        self.assert_web(False, (((), 0, (1, long)), (("a",), 0, (long - 1, long)), (("b",), 0, (1, long))))
        self.assert_web(False, (((), 0, (1, long)), (("a",), 0, (long - 3, long))))

    def test_shown(self):
        for shown in ((), ("",), ("a", "a"), ("no name", "l.a", "\n"), ("x" * 500,)):
            self.assert_web(True, ((shown, 0, (1, 1)),))
        for shown in ((1,), ("a", None), (("a",),)):
            self.assert_web(False, ((shown, 0, (1, 1)),))


class WebOf(unittest.TestCase):
    def test_the_example(self):
        row = (((), 1, HALF), (("a",), 1, HALF))
        self.assertEqual(web_of(chain_of(EXAMPLE)), ("web", (row, row)))

    def test_branches_that_show_the_same_and_lead_to_the_same_state(self):
        chain = ("chain", 3, (
            (((0,), ("b",), 1), ((1, 0), ("a",), 1), ((1, 1), ("a",), 0), ((1, 2), ("b",), 1), ((2,), ("a",), 1)),
            (((0,), (), 0), ((1,), (), 0), ((2,), (), 0)),
        ))
        self.assertEqual(web_of(chain), ("web", (
            ((("a",), 0, (1, 9)), (("a",), 1, (4, 9)), (("b",), 1, (4, 9))),
            (((), 0, (1, 1)),),
        )))

    def test_the_order_of_arcs(self):
        chain = ("chain", 4, ((((0,), ("b",), 0), ((1,), ("a", "b"), 0), ((2,), (), 0), ((3,), ("a",), 0)),))
        self.assertEqual([arc[0] for arc in web_of(chain)[1][0]], [(), ("a",), ("a", "b"), ("b",)])

    def test_nothing_is_read(self):
        self.assertEqual(web_of(("chain", 5, ((((), ("m",), 0),),))), ("web", (((("m",), 0, (1, 1)),),)))

    def test_random_chains(self):
        dice = random.Random(38)
        for seed in range(150):
            try:
                chain = chain_of(random_model(seed))
                leaves = tree(chain, 3)
            except TooMany:
                continue
            web = web_of(chain)
            self.assertTrue(is_web(web))
            self.assertEqual(len(web[1]), len(chain[2]))
            # The chance of a row of three shown and the state behind it is the same in both.
            rows = sorted({leaf[1] for leaf in leaves})
            for row in dice.sample(rows, min(3, len(rows))):
                for state in range(len(web[1])):
                    total = (0, 1)
                    for digits, shown, target in leaves:
                        if (shown, target) == (row, state):
                            total = sum_of(total, weight(chain[1], digits))
                    self.assertEqual(self.chance(web, row).get(state, (0, 1)), total)

    def chance(self, web, row):
        """For each state the chance of a row of shown that ends there."""
        here = {0: (1, 1)}
        for shown in row:
            ahead = {}
            for state, chance in here.items():
                for told, target, share in web[1][state]:
                    if told == shown:
                        ahead[target] = sum_of(ahead.get(target, (0, 1)), product_of(chance, share))
            here = ahead
        return here


if __name__ == "__main__":
    unittest.main()
