"""Point [36]: chains and their walks."""

import random
import unittest

from meantrace.chains import is_chain, walk
from meantrace.errors import Dry

ROW = ((0,), (), 0), ((1, 0), ("a",), 1), ((1, 1), ("a", "b"), 0)
CHAIN = ("chain", 2, (ROW, (((), ("x",), 0),)))


def comb(base, many):
    """Branches whose digits are a complete set of so many tapes (as far as the base lets)."""
    rows = []
    ahead = ()
    while len(rows) + base < many:
        rows.extend((*ahead, digit) for digit in range(base - 1))
        ahead = (*ahead, base - 1)
    rows.extend((*ahead, digit) for digit in range(base))
    return tuple((digits, (), 0) for digits in rows)


class IsChain(unittest.TestCase):
    def assert_chain(self, expected, base, *rows):
        self.assertIs(is_chain(("chain", base, rows)), expected)

    def test_right_ones(self):
        self.assertIs(is_chain(CHAIN), True)
        self.assert_chain(True, 2, (((), (), 0),))
        self.assert_chain(True, 6, tuple(((digit,), ("a",) * digit, 0) for digit in range(6)))
        self.assert_chain(True, 3, (((0,), (), 0), ((1, 0), (), 0), ((1, 1), (), 0), ((1, 2), (), 0), ((2,), (), 0)))

    def test_the_word(self):
        for word in ("web", "", "Chain", "chains"):
            self.assertIs(is_chain((word, *CHAIN[1:])), False)

    def test_the_base(self):
        for base in (-1000, -2, 0, 1, 7, 1000):
            self.assert_chain(False, base, (((), (), 0),))
        for base in range(2, 7):
            self.assert_chain(True, base, (((), (), 0),))
            for other in range(2, 7):
                self.assert_chain(base == other, base, tuple(((digit,), (), 0) for digit in range(other)))

    def test_the_digits(self):
        self.assert_chain(True, 2, (((0,), (), 0), ((1,), (), 0)))
        for digit in (-1000, -1, 2, 1000):
            self.assert_chain(False, 2, (((0,), (), 0), ((digit,), (), 0)))
            self.assert_chain(False, 2, ((((0,), (), 0), ((1,), (), 0), ((digit,), (), 0))))
            self.assert_chain(False, 2, (((0,), (), 0), ((1, digit), (), 0)))
            self.assert_chain(False, 2, (((digit,), (), 0),))

    def test_the_order(self):
        empty = (((), (), 0),)
        self.assert_chain(True, 2, ROW, empty)
        self.assert_chain(False, 2, ROW[::-1], empty)
        self.assert_chain(False, 2, (ROW[0], ROW[2], ROW[1]), empty)
        self.assert_chain(False, 2, (ROW[1], ROW[0], ROW[2]), empty)
        self.assert_chain(False, 2, ROW, (((0,), (), 1), ((2,), (), 1), ((1,), (), 1)))
        self.assert_chain(False, 2, (((1,), (), 0), ((0,), (), 0)))

    def test_complete_sets(self):
        empty = ((), (), 0)
        self.assert_chain(True, 2, ROW, (empty,))
        self.assert_chain(False, 2, ROW[:2], (empty,))
        self.assert_chain(False, 2, ROW[1:], (empty,))
        self.assert_chain(False, 2, ROW[::2], (empty,))
        self.assert_chain(False, 3, ROW, (empty,))
        self.assert_chain(False, 2, (ROW[0], ROW[0], *ROW[1:]), (empty,))
        self.assert_chain(False, 2, (*ROW, ((1, 1), ("b",), 0)), (empty,))
        self.assert_chain(False, 2, (empty, *ROW), (empty,))
        self.assert_chain(False, 2, (*ROW, ((1, 1, 0), (), 0)), (empty,))
        self.assert_chain(False, 2, (empty, empty))
        self.assert_chain(False, 2, (((0,), (), 0), ((0, 1), (), 0), ((1,), (), 0)))

    def test_nexts(self):
        self.assert_chain(True, 2, ROW, (((), (), 1),))
        for target in (-1000, -2, -1, 2, 3, 1000):
            self.assert_chain(False, 2, (*ROW[:2], ((1, 1), (), target)), (((), (), 0),))
            self.assert_chain(False, 2, ROW, (((), (), target),))
        self.assert_chain(False, 2, (((), (), 1),))

    def test_shown(self):
        for shown in ((), ("",), ("a", "a", "a"), ("no name", "l.a", "\n"), ("x" * 500,)):
            self.assert_chain(True, 2, (((), shown, 0),))
        for shown in ((1,), ("a", None), (("a",),)):
            self.assert_chain(False, 2, (((), shown, 0),))

    def test_rows(self):
        self.assert_chain(False, 2)
        for many in (1, 2, 199, 200):
            self.assert_chain(True, 2, *[(((), (), many - 1),)] * many)
        for many in (201, 300):
            self.assert_chain(False, 2, *[(((), (), 0),)] * many)

    def test_branches(self):
        self.assert_chain(False, 2, ())
        self.assert_chain(False, 2, ROW, ())
        for base, many, expected in ((2, 100, True), (2, 101, False), (3, 99, True), (3, 101, False), (6, 96, True), (6, 101, False)):
            row = comb(base, many)
            self.assertEqual(len(row), many)
            self.assert_chain(expected, base, row)

    def test_changed_in_one_place(self):
        dice = random.Random(36)
        for _ in range(300):
            digits = random_set(dice, 3)
            row = tuple((tape, (), 0) for tape in digits)
            self.assert_chain(True, 3, row)
            at = dice.randrange(len(row))
            self.assert_chain(False, 3, row[:at] + row[at + 1:])
            self.assert_chain(False, 3, row[:at + 1] + row[at:])
            tape = row[at][0]
            if tape:
                place = dice.randrange(len(tape))
                other = tape[:place] + ((tape[place] + 1) % 4,) + tape[place + 1:]
                self.assert_chain(False, 3, row[:at] + ((other, (), 0),) + row[at + 1:])
                self.assert_chain(False, 3, row[:at] + ((tape + (0,), (), 0),) + row[at + 1:])


def random_set(dice, base):
    tapes = [()]
    for _ in range(dice.randint(0, 8)):
        tape = tapes.pop(dice.randrange(len(tapes)))
        tapes.extend((*tape, digit) for digit in range(base))
    return sorted(tapes)


class Walks(unittest.TestCase):
    def test_walks(self):
        self.assertEqual(walk(CHAIN, (), 0), ((), 0, 0))
        self.assertEqual(walk(CHAIN, (1, 0), 1), ((("a",),), 1, 2))
        self.assertEqual(walk(CHAIN, (1, 0), 2), ((("a",), ("x",)), 0, 2))
        tape = (0, 1, 1, 1, 0, 0, 1, 1)
        self.assertEqual(walk(CHAIN, tape, 6), (((), ("a", "b"), ("a",), ("x",), (), ("a", "b")), 0, 8))
        self.assertEqual(walk(CHAIN, tape, 3), (((), ("a", "b"), ("a",)), 1, 5))

    def test_digits_that_are_not_read(self):
        self.assertEqual(walk(CHAIN, (1, 0, 1, 1, 1), 2), ((("a",), ("x",)), 0, 2))
        still = ("chain", 4, ((((), ("m",), 0),),))
        self.assertEqual(walk(still, (), 50), ((("m",),) * 50, 0, 0))

    def test_dry(self):
        for tape, ticks in (((), 1), ((1,), 1), ((1, 0), 3), ((0, 0), 3), ((0, 1, 1, 1), 3), ((1, 0, 1), 3)):
            with self.assertRaises(Dry) as caught:
                walk(CHAIN, tape, ticks)
            self.assertEqual(caught.exception.name, "tape")


if __name__ == "__main__":
    unittest.main()
