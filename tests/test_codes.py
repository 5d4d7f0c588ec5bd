"""Point [19]: flat code."""

import unittest

from helpers import EXAMPLE

from meantrace.codes import code_of

MARK = (("mark", "a"),)
END = (("end",),)


def once_code(*once):
    """The code of once alone: it begins with address 1, and `done` stands behind it."""
    (code,) = code_of(("model", 3, ("s",), (), (("process", "p", 4, once, ()),)))
    assert code[0] == ("wait", 4) and code[-1] == ("done",)
    return code[1:-1]


class Processes(unittest.TestCase):
    def test_the_example(self):
        self.assertEqual(code_of(EXAMPLE), ((
            ("wait", 0), ("draw", "s", (2, 4)), ("mark", "a"), ("jump", 4), ("hold", 1), ("jump", 1),
        ),))

    def test_once_and_cycle(self):
        processes = (
            ("process", "p", 3, MARK + MARK, (("hold", 1), ("mark", "b"))), ("process", "q", 0, (), ()),
            ("process", "w", 9, MARK, ()), ("process", "v", 0, (), (("stop",),)),
        )
        self.assertEqual(code_of(("model", 2, (), (), processes)), (
            (("wait", 3), ("mark", "a"), ("mark", "a"), ("hold", 1), ("mark", "b"), ("jump", 3)),
            (("wait", 0), ("done",)), (("wait", 9), ("mark", "a"), ("done",)),
            (("wait", 0), ("stop",), ("jump", 1)),
        ))
        self.assertEqual(code_of(("model", 2, (), (), ())), ())

    def test_statements_that_are_instructions(self):
        statements = (
            ("hold", 1), ("mark", "a"), ("add", "k", 1), ("drop", "k", 2), ("put", (("c", 1), ("d", 2))),
            ("take", (("c", 1),)), ("load", "b"), ("unload", "b"), ("interrupt", "q"), ("stop",), ("end",),
        )
        self.assertEqual(once_code(*statements), statements)


class Choices(unittest.TestCase):
    def test_draw(self):
        arms = (((2,), MARK + MARK), ((0, 1), END))
        self.assertEqual(once_code(("draw", "s", arms), ("mark", "b")), (
            ("draw", "s", (5, 5, 2)), ("mark", "a"), ("mark", "a"), ("jump", 6), ("end",), ("mark", "b"),
        ))

    def test_draw_with_empty_bodies(self):
        arms = (((0,), ()), ((1,), ()), ((2,), ()))
        self.assertEqual(once_code(("draw", "s", arms)), (("draw", "s", (2, 3, 4)), ("jump", 4), ("jump", 4)))
        arms = (((1,), ()), ((0,), MARK), ((2,), ()))
        self.assertEqual(once_code(("draw", "s", arms)), (
            ("draw", "s", (3, 2, 5)), ("jump", 5), ("mark", "a"), ("jump", 5),
        ))

    def test_draw_with_one_arm(self):
        self.assertEqual(once_code(("draw", "s", (((0, 2, 1), MARK),))), (("draw", "s", (2, 2, 2)), ("mark", "a")))
        self.assertEqual(once_code(("draw", "s", (((0, 2, 1), ()),))), (("draw", "s", (2, 2, 2)),))

    def test_use(self):
        self.assertEqual(once_code(("use", "r", 3, None, MARK, ())), (
            ("use", "r", 3, None, 4), ("mark", "a"), ("give", "r"),
        ))
        self.assertEqual(once_code(("use", "r", 3, 5, MARK, END)), (
            ("use", "r", 3, 5, 5), ("mark", "a"), ("give", "r"), ("jump", 6), ("end",),
        ))
        self.assertEqual(once_code(("use", "r", 3, 5, (), END)), (
            ("use", "r", 3, 5, 4), ("give", "r"), ("jump", 5), ("end",),
        ))
        self.assertEqual(once_code(("use", "r", 3, 5, (), ())), (("use", "r", 3, 5, 3), ("give", "r")))

    def test_if(self):
        head = ("if", "free", "r", 2)
        self.assertEqual(once_code((*head, MARK, ())), ((*head, 3), ("mark", "a")))
        self.assertEqual(once_code((*head, MARK, END)), ((*head, 4), ("mark", "a"), ("jump", 5), ("end",)))
        self.assertEqual(once_code((*head, (), END)), ((*head, 3), ("jump", 4), ("end",)))
        self.assertEqual(once_code((*head, (), ())), ((*head, 2),))

    def test_loop(self):
        self.assertEqual(once_code(("loop", 5, MARK + END)), (
            ("loop", 5), ("mark", "a"), ("end",), ("again", 2),
        ))
        self.assertEqual(once_code(("loop", 5, ())), (("loop", 5), ("again", 2)))

    def test_guard(self):
        self.assertEqual(once_code(("guard", MARK, ())), (("guard", 4), ("mark", "a"), ("unguard",)))
        self.assertEqual(once_code(("guard", MARK, END)), (
            ("guard", 5), ("mark", "a"), ("unguard",), ("jump", 6), ("end",),
        ))
        self.assertEqual(once_code(("guard", (), END)), (("guard", 4), ("unguard",), ("jump", 5), ("end",)))
        self.assertEqual(once_code(("guard", (), ())), (("guard", 3), ("unguard",)))


class Nested(unittest.TestCase):
    def test_bodies_inside_of_one_another(self):
        loop = ("loop", 2, (("if", "store", "c", 1, MARK, END),))
        use = ("use", "r", 0, 1, (loop,), (("guard", (loop,), MARK),))
        self.assertEqual(once_code(("mark", "b"), use, ("mark", "c")), (
            ("mark", "b"), ("use", "r", 0, 1, 11),
            ("loop", 2), ("if", "store", "c", 1, 7), ("mark", "a"), ("jump", 8), ("end",), ("again", 4),
            ("give", "r"), ("jump", 21),
            ("guard", 20), ("loop", 2), ("if", "store", "c", 1, 16), ("mark", "a"), ("jump", 17), ("end",),
            ("again", 13), ("unguard",), ("jump", 21), ("mark", "a"),
            ("mark", "c"),
        ))

    def test_a_draw_in_a_draw_in_the_cycle(self):
        inner = ("draw", "s", (((0,), MARK), ((1,), ()), ((2,), END)))
        outer = ("draw", "s", (((0,), ()), ((1,), (inner,)), ((2,), (inner, ("mark", "c")))))
        (code,) = code_of(("model", 3, ("s",), (), (("process", "p", 0, MARK, (outer, ("hold", 1))),)))
        self.assertEqual(code, (
            ("wait", 0), ("mark", "a"), ("draw", "s", (3, 4, 10)), ("jump", 16),
            ("draw", "s", (5, 7, 8)), ("mark", "a"), ("jump", 9), ("jump", 9), ("end",), ("jump", 16),
            ("draw", "s", (11, 13, 14)), ("mark", "a"), ("jump", 15), ("jump", 15), ("end",), ("mark", "c"),
            ("hold", 1), ("jump", 2),
        ))


if __name__ == "__main__":
    unittest.main()
