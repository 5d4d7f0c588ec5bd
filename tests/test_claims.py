"""Point [55]: claims for all tapes."""

import itertools
import random
import unittest

from helpers import EXAMPLE, let
from random_models import random_model
from random_webs import random_chain

from meantrace.chainof import chain_of
from meantrace.chains import walk
from meantrace.claims import decide, judge_breaks, judge_holds
from meantrace.errors import TooMany
from meantrace.histories import shown_of
from meantrace.leaves import tree
from meantrace.plainruns import PlainRun
from meantrace.watches import Watcher, is_watch, never, order, within

CHAIN = ("chain", 2, (
    (((0,), (), 0), ((1, 0), ("a",), 1), ((1, 1), ("b", "a"), 2)),
    (((), ("b",), 0),),
    (((0,), ("c",), 1), ((1,), (), 2)),
))


def random_watch(dice):
    many = dice.randint(1, 4)
    rows = []
    for _ in range(many):
        marks = dice.sample(["a", "b", "g"], dice.randint(0, 2))
        rows.append(tuple((mark, dice.randrange(many)) for mark in (*marks, None)))
    return ("watch", tuple(rows), tuple(sorted(dice.sample(range(many), dice.randint(0, 1)))))


def all_walks(chain, n):
    """The walks of n ticks, as blocks and shown, ascending by blocks."""
    found = [((), (), 0)]
    for _ in range(n):
        found = [((*blocks, digits), (*told, shown), target)
                 for blocks, told, state in found for digits, shown, target in chain[2][state]]
    return found


def breaks(watch, told):
    watcher = Watcher(watch)
    for shown in told:
        watcher(shown)
    return watcher.broken


class Decide(unittest.TestCase):
    def test_by_hand(self):
        coin = chain_of(EXAMPLE)
        self.assertEqual(decide(coin, never("a")), ("breaks", ((0,),)))
        self.assertEqual(decide(coin, never("b")), ("holds", ((0, 0), (1, 0))))
        self.assertEqual(decide(CHAIN, never("a")), ("breaks", ((1, 0),)))
        self.assertEqual(decide(CHAIN, never("c")), ("breaks", ((1, 1), (0,))))
        self.assertEqual(decide(CHAIN, order("a", "b")), ("holds", ((0, 0), (0, 1), (1, 1), (2, 1))))
        self.assertEqual(decide(CHAIN, order("b", "a")), ("breaks", ((1, 0),)))
        self.assertEqual(decide(CHAIN, within("c", "b", 1)), ("holds", ((0, 0), (1, 0), (1, 1), (2, 0))))
        self.assertEqual(decide(CHAIN, within("a", "b", 2)), ("breaks", ((1, 1), (1,), (0,))))

    def test_at_the_beginning(self):
        watch = ("watch", ((("a", 1), (None, 0)), ((None, 1),)), (0,))
        self.assertEqual(decide(CHAIN, watch), ("breaks", ()))
        self.assertIs(judge_breaks(CHAIN, watch, ()), True)
        self.assertEqual(decide(CHAIN, (*watch[:2], (0, 1))), ("breaks", ()))

    def test_blocks_that_read_nothing(self):
        chain = ("chain", 2, ((((), (), 1),), (((), (), 2),), (((), ("a",), 0),)))
        self.assertEqual(decide(chain, never("a")), ("breaks", ((), (), ())))

    def test_of_several_shortest_walks_the_least(self):
        # Two walks of two ticks; that along the greater state has the lesser blocks.
        chain = ("chain", 2, (
            (((0,), (), 2), ((1,), (), 1)),
            (((0,), ("a",), 1), ((1,), (), 1)),
            (((0,), (), 2), ((1,), ("a",), 2)),
        ))
        self.assertEqual(decide(chain, never("a")), ("breaks", ((0,), (1,))))
        # The shorter walk counts ahead of the lesser one.
        chain = ("chain", 2, ((((0,), (), 1), ((1,), ("a",), 0)), (((), ("a",), 0),)))
        self.assertEqual(decide(chain, never("a")), ("breaks", ((1,),)))
        # A block is less than another one that begins with it only in other rows.
        chain = ("chain", 3, (
            (((0, 0), (), 1), ((0, 1), (), 1), ((0, 2), (), 1), ((1,), (), 1), ((2,), ("b",), 1)),
            (((), ("a",), 1),),
        ))
        self.assertEqual(decide(chain, never("a")), ("breaks", ((0, 0), ())))

    def test_two_ways_to_one_pair(self):
        chain = ("chain", 2, (
            (((0,), (), 1), ((1,), (), 2)),
            (((), (), 3),),
            (((), (), 3),),
            (((), ("a",), 3),),
        ))
        self.assertEqual(decide(chain, never("a")), ("breaks", ((0,), (), ())))

    def test_random_claims(self):
        dice = random.Random(55)
        kinds = []
        for _ in range(300):
            chain, watch = random_chain(dice, most=3), random_watch(dice)
            self.assertTrue(is_watch(watch))
            told = decide(chain, watch)
            kinds.append(told[0])
            expected = None
            for n in range(5):
                broken = [blocks for blocks, shown, _ in all_walks(chain, n) if breaks(watch, shown)]
                if broken:
                    expected = min(broken)
                    break
            if told[0] == "breaks" and len(told[1]) > 4:
                self.assertIsNone(expected)
            elif told[0] == "breaks":
                self.assertEqual(told[1], expected)
                self.assertIs(judge_breaks(chain, watch, told[1]), True)
            else:
                self.assertIsNone(expected)
                self.assertIs(judge_holds(chain, watch, told[1]), True)
                self.assertEqual(told[1], self.pairs(chain, watch))
        self.assertGreater(kinds.count("holds"), 80)
        self.assertGreater(kinds.count("breaks"), 80)

    def pairs(self, chain, watch):
        found = {(0, 0)}
        while True:
            more = set(found)
            for state, place in found:
                for _, shown, target in chain[2][state]:
                    watcher = Watcher((watch[0], watch[1], ()))
                    watcher.here = place
                    more.add((target, watcher(shown)))
            if more == found:
                return tuple(sorted(found))
            found = more

    def test_large_ones(self):
        rows = tuple((((0,), ("a",) if state % 7 == 0 else (), (state + 1) % 200), ((1,), (), (state + 3) % 200)) for state in range(200))
        chain = ("chain", 2, rows)
        told = decide(chain, within("a", "b", 9))
        self.assertEqual((told[0], len(told[1])), ("breaks", 10))
        held = decide(chain, ("watch", tuple((("a", (k + 1) % 12), (None, k)) for k in range(12)), ()))
        self.assertEqual((held[0], len(held[1])), ("holds", 2400))
        self.assertIs(judge_holds(chain, ("watch", tuple((("a", (k + 1) % 12), (None, k)) for k in range(12)), ()), held[1]), True)


class Runs(unittest.TestCase):
    def test_a_claim_holds_or_breaks_in_runs_of_the_model(self):
        dice = random.Random(551)
        held = broken = 0
        for seed in range(120):
            model = random_model(seed)
            try:
                chain = chain_of(model)
            except TooMany:
                continue
            if len(model[2]) != 1:
                continue
            marks = sorted({mark for row in chain[2] for _, shown, _ in row for mark in shown}) + ["u", "v"]
            for watch in (never(marks[0]), order(marks[0], marks[1]), within(marks[0], marks[1], 2)):
                told = decide(chain, watch)
                if told[0] == "breaks":
                    broken += 1
                    tape = tuple(digit for block in told[1] for digit in block)
                    self.assertTrue(self.broken_by(model, watch, tape, len(told[1])))
                else:
                    held += 1
                    for _ in range(3):
                        tape = tuple(dice.randrange(model[1]) for _ in range(400))
                        self.assertFalse(self.broken_by(model, watch, tape, 12))
        self.assertGreater(held, 30)
        self.assertGreater(broken, 30)

    def broken_by(self, model, watch, tape, ticks):
        run, watcher = PlainRun(model, (tape,)), Watcher(watch)
        for _ in range(ticks):
            watcher(shown_of(run.tick()))
        return watcher.broken

    def test_all_tapes_of_some_ticks(self):
        dice = random.Random(552)
        for _ in range(60):
            chain, watch = random_chain(dice, most=3), random_watch(dice)
            told = decide(chain, watch)
            for digits, shown, _ in tree(chain, 3):
                self.assertEqual(walk(chain, digits, 3)[0], shown)
                if told[0] == "holds":
                    self.assertFalse(breaks(watch, shown))


class JudgeHolds(unittest.TestCase):
    PAIRS = ((0, 0), (0, 1), (1, 1), (2, 1))

    def assert_taken(self, expected, pairs, chain=CHAIN, watch=order("a", "b")):
        self.assertIs(judge_holds(chain, watch, pairs), expected)

    def test_in_any_order_and_doubled(self):
        self.assert_taken(True, self.PAIRS)
        for pairs in itertools.permutations(self.PAIRS):
            self.assert_taken(True, pairs)
        self.assert_taken(True, self.PAIRS * 3)
        # A pair that walks do not come to, from which nothing goes wrong.
        self.assert_taken(True, (*self.PAIRS, (0, 1)))

    def test_more_pairs_than_walks_come_to(self):
        watch = ("watch", (((None, 0),), ((None, 1),), ((None, 2),)), (2,))
        self.assert_taken(True, ((0, 0), (1, 0), (2, 0)), watch=watch)
        self.assert_taken(True, ((0, 0), (1, 0), (2, 0), (0, 1), (1, 1), (2, 1)), watch=watch)
        self.assert_taken(False, ((0, 0), (1, 0), (2, 0), (0, 1), (1, 1)), watch=watch)

    def test_a_pair_too_few(self):
        for at in range(4):
            self.assert_taken(False, self.PAIRS[:at] + self.PAIRS[at + 1:])
        self.assert_taken(False, ())
        self.assert_taken(False, ((0, 0),))

    def test_bad_states(self):
        self.assert_taken(False, (*self.PAIRS, (0, 2), (1, 2), (2, 2)))
        self.assert_taken(False, (*self.PAIRS, (0, 2)))
        everything = tuple(itertools.product(range(3), range(3)))
        self.assert_taken(False, everything)
        self.assert_taken(True, everything, watch=("watch", order("a", "b")[1], ()))
        self.assert_taken(False, ((0, 0),), watch=("watch", (((None, 0),),), (0,)))

    def test_pairs_that_are_none(self):
        for wrong in ((-1, 1), (3, 1), (0, -1), (0, 3), (-3, 0), (10 ** 399, 1), (0, -10 ** 399), (-1, -1), (1, -2)):
            self.assert_taken(False, (*self.PAIRS, wrong))
            self.assert_taken(False, (wrong, *self.PAIRS))
        # The last state of the watch leads to a good one, but no number below 0 is its number.
        watch = ("watch", (((None, 0),), ((None, 0),)), ())
        pairs = ((0, 0), (1, 0), (2, 0))
        self.assert_taken(True, (*pairs, (0, 1)), watch=watch)
        for wrong in ((0, -1), (0, -2), (-1, 0), (-3, 1)):
            self.assert_taken(False, (*pairs, wrong), watch=watch)

    def test_random_pairs(self):
        dice = random.Random(553)
        taken = 0
        for _ in range(300):
            chain, watch = random_chain(dice, most=2), random_watch(dice)
            told = decide(chain, watch)
            everything = list(itertools.product(range(len(chain[2])), range(len(watch[1]))))
            pairs = tuple(dice.sample(everything, dice.randint(0, len(everything))))
            known = set(pairs)
            fits = (0, 0) in known
            for state, place in pairs:
                fits = fits and place not in watch[2]
                for _, shown, target in chain[2][state]:
                    watcher = Watcher(watch)
                    watcher.here = place
                    fits = fits and (target, watcher(shown)) in known
            self.assert_taken(fits, pairs, chain, watch)
            if fits:
                taken += 1
                self.assertEqual(told[0], "holds")
        self.assertGreater(taken, 30)


class JudgeBreaks(unittest.TestCase):
    BLOCKS = ((1, 1), (1,), (1,))

    def assert_taken(self, expected, blocks, chain=CHAIN, watch=within("a", "b", 2)):
        self.assertIs(judge_breaks(chain, watch, blocks), expected)

    def test_right_blocks(self):
        self.assert_taken(True, self.BLOCKS)
        self.assert_taken(True, ((0,), *self.BLOCKS))
        self.assert_taken(True, ((0,), (1, 0), (), *self.BLOCKS))

    def test_blocks_behind_the_break(self):
        self.assert_taken(True, (*self.BLOCKS, (1,)))
        self.assert_taken(True, (*self.BLOCKS, (0,), (), (0,)))
        for wrong in ((2,), (), (1, 1), (0, 0), (-1,)):
            self.assert_taken(False, (*self.BLOCKS, wrong))

    def test_one_digit_changed(self):
        for at in range(3):
            for place in range(len(self.BLOCKS[at])):
                for digit in (-1, 0, 1, 2, 10 ** 399):
                    block = (*self.BLOCKS[at][:place], digit, *self.BLOCKS[at][place + 1:])
                    blocks = (*self.BLOCKS[:at], block, *self.BLOCKS[at + 1:])
                    # In the last tick both branches show no b.
                    self.assert_taken(blocks in (self.BLOCKS, (*self.BLOCKS[:2], (0,))), blocks)

    def test_one_block_too_few(self):
        self.assert_taken(False, self.BLOCKS[:2])
        self.assert_taken(False, self.BLOCKS[:1])
        self.assert_taken(False, ())
        self.assert_taken(False, self.BLOCKS[1:])

    def test_blocks_that_are_too_long_and_too_short(self):
        self.assert_taken(False, ((1, 1), (1,), (1, 0)))
        self.assert_taken(False, ((1, 1), (1,), ()))
        self.assert_taken(False, ((1,), (1,), (1,)))
        self.assert_taken(False, ((1, 1, 1), (1,), (1,)))

    def test_it_breaks_behind_any_tick(self):
        watch = ("watch", ((("a", 1), (None, 0)), ((None, 0),)), (1,))
        self.assert_taken(True, ((1, 0), (), (0,), (0,)), watch=watch)
        self.assert_taken(False, ((0,), (0,), (0,)), watch=watch)
        start = ("watch", ((("a", 1), (None, 1)), ((None, 1),)), (0,))
        self.assert_taken(True, (), watch=start)
        self.assert_taken(True, ((0,), (0,)), watch=start)
        self.assert_taken(False, ((0,), (2,)), watch=start)


if __name__ == "__main__":
    unittest.main()
