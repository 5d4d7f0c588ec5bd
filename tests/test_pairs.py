"""Point [52]: pairs of chains."""

import itertools
import random
import unittest

from random_webs import random_chain

from meantrace.chains import is_chain, walk
from meantrace.errors import BadNumber, TooMany
from meantrace.pairs import pair_chain, pairs_of

LEFT = ("chain", 2, (
    (((0,), ("a",), 0), ((1, 0), (), 1), ((1, 1), ("a", "b"), 1)),
    (((), (), 0),),
))
RIGHT = ("chain", 2, (
    (((0, 0), ("x",), 1), ((0, 1), (), 0), ((1,), ("y", "y"), 0)),
    (((0,), (), 1), ((1,), ("z",), 0)),
))


def comb(many, shown=()):
    """Branches that end at the first 1, or behind so many zeros."""
    rows = [((0,) * (many - 1), shown, 0)]
    rows += [((0,) * k + (1,), shown, 0) for k in range(many - 2, -1, -1)]
    return tuple(rows)


def ring(many, base=2):
    """A chain that shows nothing and goes round in so many states."""
    return ("chain", base, tuple((((), (), (k + 1) % many),) for k in range(many)))


class PairChain(unittest.TestCase):
    def test_common_digits(self):
        self.assertEqual(pair_chain(LEFT, RIGHT, 0), ("chain", 2, (
            (((0, 0), ("l.a", "r.x"), 1), ((0, 1), ("l.a",), 0), ((1, 0), ("r.y", "r.y"), 2), ((1, 1), ("l.a", "l.b", "r.y", "r.y"), 2)),
            (((0,), ("l.a",), 1), ((1, 0), ("r.z",), 2), ((1, 1), ("l.a", "l.b", "r.z"), 2)),
            (((0, 0), ("r.x",), 1), ((0, 1), (), 0), ((1,), ("r.y", "r.y"), 0)),
        )))
        self.assertEqual(pairs_of(LEFT, RIGHT, 0), ((0, 0), (0, 1), (1, 0)))

    def test_opposite_digits(self):
        self.assertEqual(pair_chain(LEFT, RIGHT, 1), ("chain", 2, (
            (((0,), ("l.a", "r.y", "r.y"), 0), ((1, 0), (), 1), ((1, 1), ("l.a", "l.b", "r.x"), 2)),
            (((0,), ("r.y", "r.y"), 0), ((1, 0), (), 0), ((1, 1), ("r.x",), 3)),
            (((0,), ("r.z",), 0), ((1,), (), 3)),
            (((0,), ("l.a", "r.z"), 0), ((1, 0), (), 2), ((1, 1), ("l.a", "l.b"), 2)),
        )))
        self.assertEqual(pairs_of(LEFT, RIGHT, 1), ((0, 0), (1, 0), (1, 1), (0, 1)))

    def test_the_longer_digits_as_the_left_reads_them(self):
        left = ("chain", 3, ((((), ("m",), 0),),))
        right = ("chain", 3, ((((0,), ("a",), 0), ((1,), ("b",), 0), ((2, 0), ("c",), 0), ((2, 1), ("d",), 0), ((2, 2), ("e",), 0)),))
        self.assertEqual(pair_chain(left, right, 0)[2], (tuple((digits, ("l.m", "r." + shown[0]), 0) for digits, shown, _ in right[2][0]),))
        self.assertEqual(pair_chain(left, right, 1)[2], ((
            ((0, 0), ("l.m", "r.e"), 0), ((0, 1), ("l.m", "r.d"), 0), ((0, 2), ("l.m", "r.c"), 0), ((1,), ("l.m", "r.b"), 0), ((2,), ("l.m", "r.a"), 0)),))

    def test_nothing_is_read(self):
        self.assertEqual(pair_chain(ring(2), ring(3), 0), ("chain", 2, tuple((((), (), (k + 1) % 6),) for k in range(6))))
        self.assertEqual(pairs_of(ring(2), ring(3), 1), ((0, 0), (1, 1), (0, 2), (1, 0), (0, 1), (1, 2)))

    def test_signs_ahead_of_marks_that_have_signs(self):
        left = ("chain", 2, ((((), ("r.a", ""), 0),),))
        self.assertEqual(pair_chain(left, left, 0)[2], (((((), ("l.r.a", "l.", "r.r.a", "r."), 0),)),))

    def test_random_chains(self):
        dice = random.Random(52)
        for k in range(200):
            left = random_chain(dice, splits=3)
            right = random_chain(dice, base=left[1], splits=3)
            flip = k % 2
            pairs = pairs_of(left, right, flip)
            chain = pair_chain(left, right, flip)
            self.assertTrue(is_chain(chain))
            self.assertEqual(len(pairs), len(chain[2]))
            self.assertEqual(pairs[0], (0, 0))
            met = [(0, 0)]
            for (here, there), row in zip(pairs, chain[2]):
                # Every block of 6 digits, which is as long as any branch.
                found = {}
                for block in itertools.product(range(left[1]), repeat=6):
                    other = tuple(left[1] - 1 - digit for digit in block) if flip else block
                    mine = next(branch for branch in left[2][here] if block[:len(branch[0])] == branch[0])
                    theirs = next(branch for branch in right[2][there] if other[:len(branch[0])] == branch[0])
                    digits = block[:max(len(mine[0]), len(theirs[0]))]
                    shown = tuple(["l." + mark for mark in mine[1]] + ["r." + mark for mark in theirs[1]])
                    found[digits] = (shown, (mine[2], theirs[2]))
                self.assertEqual([branch[0] for branch in row], sorted(found))
                for digits, shown, target in row:
                    self.assertEqual((shown, pairs[target]), found[digits])
                    if pairs[target] not in met:
                        met.append(pairs[target])
            self.assertEqual(tuple(met), pairs)

    def test_a_chain_with_itself_on_common_digits(self):
        dice = random.Random(521)
        for _ in range(50):
            chain = random_chain(dice)
            for here, there in pairs_of(chain, chain, 0):
                self.assertEqual(here, there)

    def test_walks_of_both(self):
        """Each of both walks is that of its own chain on the digits that it reads."""
        dice = random.Random(522)
        for k in range(100):
            left = random_chain(dice)
            right = random_chain(dice, base=left[1])
            flip = k % 2
            chain = pair_chain(left, right, flip)
            tape = tuple(dice.randrange(left[1]) for _ in range(60))
            shown, _, _ = walk(chain, tape, 5)
            at, state, places = 0, 0, [0, 0]
            for tick in range(5):
                block = next(branch for branch in chain[2][state] if tape[at:at + len(branch[0])] == branch[0])
                at, state = at + len(block[0]), block[2]
                told = []
                for number, (sign, rows) in enumerate((("l.", left[2]), ("r.", right[2]))):
                    digits = block[0]
                    if number and flip:
                        digits = tuple(left[1] - 1 - digit for digit in digits)
                    branch = next(b for b in rows[places[number]] if digits[:len(b[0])] == b[0])
                    told += [sign + mark for mark in branch[1]]
                    places[number] = branch[2]
                self.assertEqual(shown[tick], tuple(told))


class Faults(unittest.TestCase):
    def assert_raises(self, kind, value, left, right, flips=(0, 1)):
        for flip in flips:
            for way in (pair_chain, pairs_of):
                with self.assertRaises(kind) as caught:
                    way(left, right, flip)
                self.assertEqual(vars(caught.exception), {"value" if kind is BadNumber else "name": value})

    def test_other_bases(self):
        self.assert_raises(BadNumber, 3, ring(2), ring(2, base=3))
        self.assert_raises(BadNumber, 2, ring(2, base=6), ring(2))
        # It comes ahead of the others.
        wide = ("chain", 2, (comb(100),))
        self.assert_raises(BadNumber, 3, wide, ring(2, base=3))
        self.assert_raises(BadNumber, 5, ring(200), ring(199, base=5))

    def test_more_than_100_branches(self):
        # On common digits a comb of 100 and a comb whose first digit is split: 1 more.
        split = ((*[((0,), (), 0)], ((1, 0), (), 0), ((1, 1), (), 0)),)
        wide = ("chain", 2, (comb(100),))
        self.assertEqual(len(pair_chain(wide, ("chain", 2, (comb(50),)), 0)[2][0]), 100)
        self.assert_raises(TooMany, "ways", wide, ("chain", 2, split), flips=(0,))
        self.assert_raises(TooMany, "ways", wide, wide, flips=(1,))
        # On opposite digits each of both combs splits one branch of the other one.
        for first, second, many in ((51, 50, 99), (51, 51, 100), (52, 51, None), (51, 52, None)):
            left, right = ("chain", 2, (comb(first),)), ("chain", 2, (comb(second),))
            if many is None:
                self.assert_raises(TooMany, "ways", left, right, flips=(1,))
            else:
                found = pair_chain(left, right, 1)
                self.assertEqual(len(found[2][0]), many)

    def test_more_than_200_pairs(self):
        self.assertEqual(len(pairs_of(ring(8), ring(25), 0)), 200)
        self.assertEqual(len(pair_chain(ring(200), ring(100), 1)[2]), 200)
        self.assert_raises(TooMany, "states", ring(3), ring(67))
        self.assert_raises(TooMany, "states", ring(200), ring(199))

    def test_which_one_comes_first(self):
        # The first tick leads to 100 pairs with state 1 of the right. That of state 0 of the left leads to
        # 100 more, which are too many; those of the others have 101 branches. The lesser number counts.
        apart = (((0,), (), 2), ((1, 0), (), 2), ((1, 1), (), 2))
        right = ("chain", 2, ((((), (), 1),), apart, (((), (), 2),)))
        tapes = [digits for digits, _, _ in comb(100)]
        mirrored = sorted(tuple(1 - digit for digit in digits) for digits in tapes)
        for first, name in ((0, "states"), (1, "ways")):
            order = [first] + [state for state in range(100) if state != first]
            own = tuple((digits, (), state) for digits, state in zip(mirrored, order))
            other = tuple((digits, (), 0) for digits in tapes)
            self.assert_raises(TooMany, name, ("chain", 2, (own, *[other] * 99)), right, flips=(0,))

    def test_too_wide_ahead_of_its_nexts(self):
        # Pair number 198 leads to too many pairs; if it has too many branches, too, these count.
        tapes = [digits for digits, _, _ in comb(100)]
        wide = tuple((digits, (), state) for state, digits in enumerate(tapes))
        left = ("chain", 2, (*[(((), (), state + 1),) for state in range(198)], wide))
        self.assertEqual(len(pairs_of(left, ring(1), 0)), 199)
        self.assert_raises(TooMany, "states", left, ring(2), flips=(0,))
        split = (((0,), (), 0), ((1, 0), (), 0), ((1, 1), (), 0))
        self.assert_raises(TooMany, "ways", left, ("chain", 2, (split,)), flips=(0,))
        turning = tuple((digits, shown, 1) for digits, shown, _ in split)
        self.assert_raises(TooMany, "ways", left, ("chain", 2, (turning, split)), flips=(0,))


if __name__ == "__main__":
    unittest.main()
