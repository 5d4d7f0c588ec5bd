"""Point [54]: watches."""

import random
import unittest

from meantrace.watches import Watcher, is_watch, never, order, within

WATCH = ("watch", (
    (("a", 1), ("b", 2), (None, 0)),
    (("b", 0), (None, 1)),
    ((None, 2),),
), (2,))


class IsWatch(unittest.TestCase):
    def assert_watch(self, expected, rows, bad=(), word="watch"):
        self.assertIs(is_watch((word, rows, bad)), expected)

    def test_right_ones(self):
        self.assertIs(is_watch(WATCH), True)
        self.assert_watch(True, (((None, 0),),))
        self.assert_watch(True, (((None, 0),),), (0,))
        self.assert_watch(True, ((("", 0), ("a", 0), ("None", 0), (None, 0)),))
        self.assert_watch(True, (((*[("m" + str(k), 0) for k in range(100)], (None, 0)),)[0],))

    def test_the_word(self):
        for word in ("", "Watch", "plan", "watches"):
            self.assert_watch(False, WATCH[1], WATCH[2], word)

    def test_how_many_rows(self):
        self.assert_watch(False, ())
        for many in range(1, 16):
            self.assert_watch(many <= 12, (((None, many - 1),),) * many)
            self.assert_watch(many <= 12, (((None, 0),),) * many, tuple(range(many)))

    def test_none_at_the_end(self):
        for row in ((), (("a", 0),), (("a", 0), ("b", 0)), ((None, 0), ("a", 0)), ((None, 0), (None, 0)),
                    (("a", 0), (None, 0), (None, 0)), (("a", 0), (None, 0), ("b", 0), (None, 0)), ((None, 0), ("a", 0), (None, 0))):
            self.assert_watch(False, (row,))
            self.assert_watch(False, (((None, 0),), row))

    def test_marks_that_stand_twice(self):
        self.assert_watch(False, ((("a", 0), ("a", 0), (None, 0)),))
        self.assert_watch(False, ((("a", 0), ("b", 0), ("a", 1), (None, 0)), ((None, 0),)))
        self.assert_watch(True, ((("a", 0), (None, 0)), (("a", 0), (None, 0))))

    def test_where_pairs_lead(self):
        for to in (-10 ** 399, -2, -1, 2, 3, 10 ** 399):
            self.assert_watch(False, (((None, to),), ((None, 0),)))
            self.assert_watch(False, (((None, 0),), (("a", to), (None, 0))))
        for to in (0, 1):
            self.assert_watch(True, (((None, to),), (("a", to), (None, 1))))

    def test_bad_states(self):
        rows = (((None, 0),),) * 4
        for bad in ((), (0,), (3,), (0, 3), (0, 1, 2, 3), (1, 2)):
            self.assert_watch(True, rows, bad)
        for bad in ((-1,), (4,), (0, 4), (1, 0), (0, 0), (1, 1), (0, 2, 1), (0, 1, 1), (10 ** 399,), (-1, 0), (3, 2, 1)):
            self.assert_watch(False, rows, bad)


class SomeWatches(unittest.TestCase):
    def test_never(self):
        self.assertEqual(never("m"), ("watch", ((("m", 1), (None, 0)), ((None, 1),)), (1,)))
        self.assertEqual(never("")[1][0][0], ("", 1))

    def test_within(self):
        self.assertEqual(within("c", "e", 1), ("watch", (
            (("c", 1), (None, 0)), (("e", 0), (None, 2)), ((None, 2),)), (2,)))
        self.assertEqual(within("c", "e", 3), ("watch", (
            (("c", 1), (None, 0)), (("e", 0), (None, 2)), (("e", 0), (None, 3)), (("e", 0), (None, 4)), ((None, 4),)), (4,)))
        nine = within("c", "e", 9)
        self.assertEqual(len(nine[1]), 11)
        self.assertEqual(nine[1][9], (("e", 0), (None, 10)))
        self.assertEqual((nine[1][10], nine[2]), (((None, 10),), (10,)))

    def test_order(self):
        self.assertEqual(order("x", "y"), ("watch", ((("x", 1), ("y", 2), (None, 0)), ((None, 1),), ((None, 2),)), (2,)))

    def test_they_are_watches(self):
        for watch in (never("a"), order("a", "b"), *[within("a", "b", n) for n in range(1, 10)]):
            self.assertIs(is_watch(watch), True)


class Watchers(unittest.TestCase):
    def go(self, watch, *rows):
        watcher = Watcher(watch)
        told = [(watcher.place, watcher.broken)]
        for shown in rows:
            place = watcher(shown)
            self.assertEqual(place, watcher.place)
            told.append((place, watcher.broken))
        self.assertEqual({type(broken) for _, broken in told}, {bool})
        return told

    def test_the_first_pair_counts(self):
        self.assertEqual(self.go(WATCH, ("b", "a")), [(0, False), (1, False)])
        self.assertEqual(self.go(WATCH, ("a", "b")), [(0, False), (1, False)])
        self.assertEqual(self.go(WATCH, ("x", "b", "x")), [(0, False), (2, True)])

    def test_others_and_none(self):
        self.assertEqual(self.go(WATCH, (), ("x",), ("x", "", "A")), [(0, False)] * 4)
        self.assertEqual(self.go(WATCH, ("a", "a"), (), ("a",), ("b",), ("a", "x")), [(0, False), (1, False), (1, False), (1, False), (0, False), (1, False)])

    def test_broken_at_the_beginning(self):
        watch = ("watch", ((("a", 1), (None, 0)), ((None, 1),)), (0,))
        self.assertEqual(self.go(watch, ("a",), ()), [(0, True), (1, True), (1, True)])
        self.assertIs(Watcher(watch).broken, True)

    def test_it_stays_broken_and_goes_on(self):
        watch = ("watch", ((("a", 1), (None, 0)), ((None, 2),), ((None, 0),)), (1,))
        self.assertEqual(self.go(watch, (), ("a",), (), (), ("a",)), [(0, False), (0, False), (1, True), (2, True), (0, True), (1, True)])

    def test_several_bad_states(self):
        watch = ("watch", ((("a", 1), ("b", 2), (None, 0)), ((None, 0),), ((None, 0),)), (1, 2))
        for mark in "ab":
            self.assertIs(self.go(watch, (), (mark,), ())[-1][1], True)
        self.assertIs(self.go(watch, (), ("c",), ())[-1][1], False)

    def test_no_bad_states(self):
        watch = (*WATCH[:2], ())
        self.assertEqual(self.go(watch, ("b",), ("a",)), [(0, False), (2, False), (2, False)])

    def test_two_watchers_of_one_watch(self):
        first, second = Watcher(WATCH), Watcher(WATCH)
        first(("b",))
        self.assertEqual((first.place, second.place, first.broken, second.broken), (2, 0, True, False))

    def test_never_and_order(self):
        dice = random.Random(54)
        for _ in range(200):
            rows = [tuple(dice.choice("abc") for _ in range(dice.randint(0, 2))) for _ in range(4)]
            marks = [mark for shown in rows for mark in shown]
            self.assertEqual(self.go(never("a"), *rows)[-1][1], "a" in marks)
            ticks = [tick for tick, shown in enumerate(rows) if "a" in shown]
            late = [tick for tick, shown in enumerate(rows) if "b" in shown]
            # Both in one tick are in order: the pair of the first one stands ahead.
            broken = bool(late) and (not ticks or late[0] < ticks[0])
            self.assertEqual(self.go(order("a", "b"), *rows)[-1][1], broken)

    def test_within(self):
        dice = random.Random(541)
        for k in range(300):
            n = 1 + k % 3
            rows = [tuple(dice.choice("cex") for _ in range(dice.randint(0, 2))) for _ in range(7)]
            broken, since = False, None
            for tick, shown in enumerate(rows):
                if since is None:
                    since = tick if "c" in shown else None
                elif "e" in shown:
                    since = None
                elif tick == since + n:
                    broken = True
                    break
            self.assertEqual(self.go(within("c", "e", n), *rows)[-1][1], broken)

    def test_properties_are_not_set(self):
        watcher = Watcher(WATCH)
        for name in ("place", "broken"):
            with self.assertRaises(AttributeError):
                setattr(watcher, name, 1)


if __name__ == "__main__":
    unittest.main()
