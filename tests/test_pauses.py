"""Points [9] and [10]: when a body pauses, and the moves of a body."""

import unittest

from meantrace.pauses import moves_of, pauses

HOLD = (("hold", 5),)
MARK = (("mark", "a"),)


def draw(*bodies):
    return ("draw", "s", tuple(((number,), body) for number, body in enumerate(bodies)))


class Pauses(unittest.TestCase):
    def test_statements_that_pause(self):
        for statement in (("hold", 1), ("stop",), ("end",)):
            self.assertIs(pauses((statement,)), True)

    def test_statements_that_do_not(self):
        for statement in (("mark", "a"), ("add", "k", 1), ("drop", "k", 1), ("put", (("c", 1),)),
                          ("take", (("c", 1),)), ("load", "b"), ("unload", "b"), ("interrupt", "p")):
            self.assertIs(pauses((statement,)), False)

    def test_bodies(self):
        self.assertIs(pauses(()), False)
        self.assertIs(pauses(MARK + HOLD), True)
        self.assertIs(pauses(HOLD + MARK), True)
        self.assertIs(pauses(MARK + MARK), False)

    def test_draw_needs_all_bodies(self):
        self.assertIs(pauses((draw(HOLD, HOLD),)), True)
        self.assertIs(pauses((draw(HOLD, MARK),)), False)
        self.assertIs(pauses((draw((), HOLD),)), False)
        self.assertIs(pauses((draw(HOLD),)), True)

    def test_if_and_guard_need_both(self):
        for head in (("if", "free", "r", 1), ("guard",)):
            self.assertIs(pauses(((*head, HOLD, HOLD),)), True)
            self.assertIs(pauses(((*head, HOLD, ()),)), False)
            self.assertIs(pauses(((*head, (), HOLD),)), False)
            self.assertIs(pauses(((*head, HOLD, MARK),)), False)
            self.assertIs(pauses(((*head, (), ()),)), False)

    def test_use_and_loop_need_the_first(self):
        self.assertIs(pauses((("use", "r", 0, None, HOLD, ()),)), True)
        self.assertIs(pauses((("use", "r", 0, 1, HOLD, MARK),)), True)
        self.assertIs(pauses((("use", "r", 0, 1, MARK, HOLD),)), False)
        self.assertIs(pauses((("loop", 3, HOLD),)), True)
        self.assertIs(pauses((("loop", 3, MARK),)), False)
        self.assertIs(pauses((("loop", 3, ()),)), False)

    def test_deep_inside(self):
        inner = (("loop", 2, (("use", "r", 1, None, HOLD, ()),)),)
        self.assertIs(pauses((("guard", (draw(inner, inner),), (("stop",),)),)), True)
        self.assertIs(pauses((("guard", (draw(inner, MARK),), (("stop",),)),)), False)


class Moves(unittest.TestCase):
    def test_simple_statements(self):
        self.assertEqual(moves_of(()), 0)
        self.assertEqual(moves_of(HOLD), 2)
        for statement in (("mark", "a"), ("add", "k", 1), ("drop", "k", 1),
                          ("put", (("c", 1), ("d", 1))), ("take", (("c", 1),)), ("load", "b"),
                          ("unload", "b"), ("interrupt", "p"), ("stop",), ("end",)):
            self.assertEqual(moves_of((statement,)), 1)

    def test_statements_with_bodies(self):
        self.assertEqual(moves_of((draw(HOLD, MARK, ()),)), 4)
        self.assertEqual(moves_of((("if", "free", "r", 1, HOLD, MARK),)), 4)
        self.assertEqual(moves_of((("use", "r", 0, 1, HOLD, MARK),)), 5)
        self.assertEqual(moves_of((("use", "r", 0, None, (), ()),)), 2)
        self.assertEqual(moves_of((("guard", HOLD, MARK),)), 5)
        self.assertEqual(moves_of((("loop", 4, HOLD),)), 9)
        self.assertEqual(moves_of((("loop", 4, ()),)), 1)

    def test_sums_and_loops_inside_of_loops(self):
        self.assertEqual(moves_of(HOLD + MARK + HOLD), 5)
        inner = ("loop", 3, HOLD + MARK)
        self.assertEqual(moves_of((("loop", 2, (inner,) + MARK), *MARK)), 1 + 2 * (1 + 3 * 3 + 1) + 1)
        deep = HOLD
        for _ in range(6):
            deep = (("loop", 9, deep),)
        expected = 2
        for _ in range(6):
            expected = 1 + 9 * expected
        self.assertEqual(moves_of(deep), expected)


if __name__ == "__main__":
    unittest.main()
