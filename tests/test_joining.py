"""Point [29]: events of several houses in one tick."""

import itertools
import unittest

from helpers import let

from meantrace.joining import join_events

MODEL = let("model 2 streams { " + " ".join(f"process {name} at 0 {{ }} cycle {{ }}" for name in "zyxwvu") + " }")


def events(names):
    return tuple((3, name, "mark", f"m{number}", 0) for number, name in enumerate(names))


def joined(*rows):
    found = join_events(MODEL, tuple(events(row) for row in rows))
    return "".join(event[1] for event in found)


class Joining(unittest.TestCase):
    def test_none(self):
        self.assertEqual(join_events(MODEL, ()), ())
        self.assertEqual(join_events(MODEL, ((), (), ())), ())

    def test_one_house(self):
        self.assertEqual(join_events(MODEL, (events("vzwz"),)), events("vzwz"))
        self.assertEqual(join_events(MODEL, ((), events("vzwz"))), events("vzwz"))

    def test_numbers_that_lie_between_each_other(self):
        # The order of the processes is z, y, x, w, v, u.
        self.assertEqual(joined("zx", "y"), "zyx")
        self.assertEqual(joined("y", "zx"), "zyx")
        self.assertEqual(joined("zxv", "ywu"), "zyxwvu")
        self.assertEqual(joined("zv", "yw", "xu"), "zyxwvu")

    def test_the_events_of_each_house_stay_in_their_order(self):
        # v is the next event of its house, and z comes behind it.
        self.assertEqual(joined("vz", "wy"), "wyvz")
        self.assertEqual(joined("vzzv", "yuy"), "yvzzvuy")
        self.assertEqual(joined("uz", "vy", "wx"), "wxvyuz")

    def test_whole_events(self):
        rows = (((5, "y", "get", "r", 0), (5, "y", "give", "r", 0)), ((5, "z", "wake", "", 0), (5, "x", "hold", "", 3)))
        self.assertEqual(join_events(MODEL, rows), (rows[1][0], rows[0][0], rows[0][1], rows[1][1]))

    def test_the_order_of_the_houses_does_not_matter(self):
        rows = (events("uzw"), events("vy"), events("x"))
        for other in itertools.permutations(rows):
            self.assertEqual(join_events(MODEL, other), join_events(MODEL, rows))


if __name__ == "__main__":
    unittest.main()
