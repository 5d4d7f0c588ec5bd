"""Point [56]: marks that are sure to be shown."""

import itertools
import random
import unittest

from helpers import EXAMPLE, let
from random_webs import random_chain

from meantrace.chainof import chain_of
from meantrace.latest import judge_ranks, judge_ring, latest
from meantrace.reaching import reach
from meantrace.webs import web_of

# State 0 shows the mark at once or leads to 1 and 2; 3 may avoid it, 4 is not come to.
CHAIN = ("chain", 2, (
    (((0,), ("a",), 3), ((1, 0), (), 1), ((1, 1), (), 2)),
    (((0,), (), 2), ((1,), ("b", "a"), 1)),
    (((), ("a", "a"), 0),),
    (((0,), (), 3), ((1,), ("a",), 0)),
    (((), (), 0),),
))
RANKS = (3, 2, 1, 0, 4)
# The mark is shown in state 2 alone; 0 and 1 lead to each other or to it.
RING = ("chain", 2, (
    (((0,), (), 2), ((1,), (), 1)),
    (((0, 0), ("b",), 0), ((0, 1), ("a",), 0), ((1,), (), 2)),
    (((), ("a",), 2),),
))


def shown_along(chain, way, ring):
    """What is shown along a way and a ring, and whether they are walked and come back; or None."""
    state, shown = 0, []
    for number, blocks in enumerate((way, ring)):
        begin = state
        for block in blocks:
            found = [branch for branch in chain[2][state] if branch[0] == block]
            if not found:
                return None
            shown.append(found[0][1])
            state = found[0][2]
    return shown if ring and state == begin else None


def late(chain, mark, state, most):
    """The greatest number of ticks up to the mark, over all walks; None if there is one of so many ticks without it."""
    open_states = {state}
    for tick in range(1, most + 1):
        open_states = {target for here in open_states for _, shown, target in chain[2][here] if mark not in shown}
        if not open_states:
            return tick
    return None


class Latest(unittest.TestCase):
    def test_sure(self):
        self.assertEqual(latest(CHAIN, "a"), ("sure", RANKS))

    def test_sure_at_once(self):
        chain = ("chain", 2, ((((0,), ("a",), 1), ((1,), ("a", "b"), 0)), (((), (), 1),)))
        self.assertEqual(latest(chain, "a"), ("sure", (1, 0)))
        self.assertEqual(latest(("chain", 2, ((((), ("a",), 0),),)), "a"), ("sure", (1,)))

    def test_sure_late(self):
        rows = [(((0,), (), k + 1), ((1,), (), 199)) for k in range(199)]
        chain = ("chain", 2, (*rows, ((((), ("a",), 0),))))
        self.assertEqual(latest(chain, "a"), ("sure", tuple(range(200, 0, -1))))

    def test_a_ring_with_state_0_and_without(self):
        told = latest(RING, "a")
        self.assertEqual(told[0], "ring")
        self.assertIs(judge_ring(RING, "a", told[1:]), True)
        coin = chain_of(EXAMPLE)
        kind, way, ring = latest(coin, "a")
        self.assertEqual((kind, way, ring), ("ring", ((1,),), ((1,),)))
        still = ("chain", 3, ((((0,), ("a",), 0), ((1,), (), 0), ((2,), (), 0)),))
        kind, way, ring = latest(still, "a")
        self.assertEqual((kind, way), ("ring", ()))
        self.assertIn(ring, (((1,),), ((2,),)))

    def test_a_mark_that_is_never_shown(self):
        kind, way, ring = latest(CHAIN, "x")
        self.assertEqual(kind, "ring")
        self.assertIs(judge_ring(CHAIN, "x", (way, ring)), True)

    def test_random_chains(self):
        dice = random.Random(56)
        kinds = []
        for k in range(400):
            chain = random_chain(dice, most=5, chance=0.7, splits=1 + k % 2)
            told = latest(chain, "a")
            kinds.append(told[0])
            ranks = [late(chain, "a", state, 7) for state in range(len(chain[2]))]
            if ranks[0] is None:
                self.assertEqual((told[0], len(told)), ("ring", 3))
                shown = shown_along(chain, told[1], told[2])
                self.assertIsNotNone(shown)
                self.assertFalse([row for row in shown if "a" in row])
                self.assertIs(judge_ring(chain, "a", told[1:]), True)
            else:
                self.assertEqual(told, ("sure", tuple(rank or 0 for rank in ranks)))
                self.assertIs(judge_ranks(chain, "a", told[1]), True)
                self.assertEqual(reach(web_of(chain), "a")[0][0], (1, 1))
        self.assertGreater(kinds.count("sure"), 60)
        self.assertGreater(kinds.count("ring"), 60)

    def test_a_model(self):
        model = let("""model 2 streams s { process p at 2 { } cycle { draw s { at 0 { hold 1 ; } at 1 { hold 3 ; } } mark m ; } }""")
        chain = chain_of(model)
        kind, ranks = latest(chain, "m")
        # It wakes in the third tick, and holds up to three ticks then.
        self.assertEqual((kind, ranks[0]), ("sure", 6))


class JudgeRanks(unittest.TestCase):
    def assert_taken(self, expected, ranks, chain=CHAIN, mark="a"):
        self.assertIs(judge_ranks(chain, mark, ranks), expected)

    def test_right_ones(self):
        self.assert_taken(True, RANKS)
        self.assert_taken(True, (9, 5, 3, 0, 0))
        self.assert_taken(True, (3, 2, 1, 0, 0))
        self.assert_taken(True, (10 ** 399, 2, 1, 0, 10 ** 399 + 1))

    def test_one_wrong_place(self):
        for at in range(5):
            for rank in (-10 ** 399, -1, 0, 1, 2, 3, 4, 5):
                ranks = (*RANKS[:at], rank, *RANKS[at + 1:])
                fits = (ranks[0] > ranks[1] > ranks[2] > 0 and ranks[3] == 0 and (ranks[4] == 0 or ranks[4] > ranks[0]))
                self.assert_taken(fits, ranks)

    def test_state_0(self):
        self.assert_taken(False, (0, 2, 1, 0, 0))
        self.assert_taken(False, (0,) * 5)
        self.assert_taken(False, (0, 0, 1, 0, 0))

    def test_how_many(self):
        for ranks in ((), (3,), RANKS[:4], (*RANKS, 0), (*RANKS, 1)):
            self.assert_taken(False, ranks)

    def test_a_ring_has_no_ranks(self):
        for ranks in itertools.product(range(5), repeat=3):
            self.assert_taken(False, ranks, RING)

    def test_states_that_walks_do_not_come_to(self):
        # State 4 is not come to, but its rank has to be borne out.
        for rank in (1, 2, 3):
            self.assert_taken(False, (*RANKS[:4], rank))
        for rank in (0, 4, 5, 100):
            self.assert_taken(True, (*RANKS[:4], rank))

    def test_each_branch_counts(self):
        chain = ("chain", 2, ((((0,), ("a",), 0), ((1,), (), 1)), (((0,), ("a",), 0), ((1,), (), 2)), (((), ("a",), 2),)))
        for ranks in itertools.product(range(5), repeat=3):
            self.assert_taken(ranks[0] > ranks[1] > ranks[2] > 0, ranks, chain)

    def test_random_ranks(self):
        dice = random.Random(561)
        taken = 0
        for _ in range(400):
            chain = random_chain(dice, most=3, chance=0.8, splits=1)
            ranks = tuple(dice.randint(-1, 4) for _ in chain[2])
            fits = ranks[0] > 0 and min(ranks) >= 0 and all(
                rank == 0 or all("a" in shown or 1 <= ranks[target] < rank for _, shown, target in row)
                for rank, row in zip(ranks, chain[2]))
            self.assert_taken(fits, ranks, chain)
            if fits:
                taken += 1
                self.assertEqual(latest(chain, "a")[0], "sure")
        self.assertGreater(taken, 20)


class JudgeRing(unittest.TestCase):
    def assert_taken(self, expected, way, ring, chain=RING, mark="a"):
        self.assertIs(judge_ring(chain, mark, (way, ring)), expected)

    def test_right_ones(self):
        self.assert_taken(True, (), ((1,), (0, 0)))
        self.assert_taken(True, ((1,),), ((0, 0), (1,)))
        self.assert_taken(True, ((1,), (0, 0), (1,), (0, 0)), ((1,), (0, 0)))
        self.assert_taken(True, (), ((1,), (0, 0)) * 3)

    def test_rings_that_do_not_come_back(self):
        self.assert_taken(False, (), ((1,),))
        self.assert_taken(False, ((1,),), ((0, 0),))
        self.assert_taken(False, (), ((1,), (0, 0), (1,)))
        self.assert_taken(False, ((1,),), ((0, 0), (1,), (0, 0)))
        self.assert_taken(False, (), ((1,), (1,)))

    def test_no_ring(self):
        self.assert_taken(False, (), ())
        self.assert_taken(False, ((1,), (0, 0)), ())

    def test_the_mark_on_the_way_and_on_the_ring(self):
        self.assert_taken(False, (), ((1,), (0, 1)))
        self.assert_taken(False, ((1,), (0, 1)), ((1,), (0, 0)))
        self.assert_taken(False, ((1,), (1,)), ((),))
        self.assert_taken(False, ((0,),), ((),))
        self.assert_taken(True, ((1,), (0, 1)), ((1,), (0, 1)), mark="c")
        self.assert_taken(False, (), ((1,), (0, 0)), mark="b")

    def test_blocks_that_are_none(self):
        for wrong in ((), (2,), (-1,), (0, 0), (1, 0), (0, 1), (10 ** 399,)):
            self.assert_taken(False, (), (wrong, (0, 0)))
            self.assert_taken(False, (wrong,), ((0, 0), (1,)))
            self.assert_taken(False, (wrong,), ((1,), (0, 0)))
        for wrong in ((), (0,), (0, 2), (0, 0, 0), (-1, 0)):
            self.assert_taken(False, (), ((1,), wrong))

    def test_the_ring_begins_behind_the_way(self):
        self.assert_taken(False, ((1,),), ((1,), (0, 0)))
        self.assert_taken(False, (), ((0, 0), (1,)))


if __name__ == "__main__":
    unittest.main()
