"""Points [8] to [10]: the first fault of a tree, and the bounds of moves."""

import unittest

from helpers import EXAMPLE, tree

from meantrace.checks import check
from meantrace.errors import (
    BadNumber, BadUse, Endless, MeanError, TooLarge, Twice, Unknown,
)

HOLD = (("hold", 1),)
MARK = (("mark", "a"),)
ITEMS = (
    ("resource", "r", ((1, 1),)), ("store", "c", 0, 5), ("store", "d", 2, 3), ("belt", "b", 1, None),
    ("counter", "k", 0, 9),
)


def fault(model):
    """The kind and the value of the first fault, or the bounds."""
    try:
        return check(model)
    except BadNumber as error:
        return (BadNumber, error.value)
    except MeanError as error:
        return (type(error), error.name)


def of_statement(*statements):
    """The first fault of these statements, among items of all kinds and two streams."""
    return fault(tree(statements, ITEMS, ("s", "t")))


def of_items(*items):
    return fault(("model", 2, (), items, ()))


def model(base=2, streams=(), items=(), processes=()):
    return ("model", base, streams, items, processes)


def process(name, start=0, once=(), cycle=()):
    return ("process", name, start, once, cycle)


class Heads(unittest.TestCase):
    def test_base(self):
        for base in (2, 3, 4, 5, 6):
            self.assertEqual(fault(model(base)), ())
        for base in (-100, -1, 0, 1, 7, 9, 100):
            self.assertEqual(fault(model(base)), (BadNumber, base))

    def test_how_many(self):
        streams = tuple(f"s{k}" for k in range(5))
        items = tuple(("counter", f"k{k}", 0, 1) for k in range(9))
        processes = tuple(process(f"p{k}") for k in range(7))
        self.assertEqual(fault(model(2, streams[:4], items[:8], processes[:6])), (1,) * 6)
        self.assertEqual(fault(model(2, streams, items[:8], processes[:6])), (TooLarge, "streams"))
        self.assertEqual(fault(model(2, streams[:4], items, processes[:6])), (TooLarge, "items"))
        self.assertEqual(fault(model(2, streams[:4], items[:8], processes)), (TooLarge, "processes"))
        self.assertEqual(fault(model(2, streams, items, processes)), (TooLarge, "streams"))
        self.assertEqual(fault(model(2, (), items, processes)), (TooLarge, "items"))
        self.assertEqual(fault(model(7, streams, items, processes)), (BadNumber, 7))
        twice = processes + processes
        self.assertEqual(fault(model(2, ("s", "s"), (), twice)), (TooLarge, "processes"))

    def test_twice(self):
        belt, other = ("belt", "x", 1, None), ("store", "x", 1, 1)
        self.assertEqual(fault(model(2, ("x", "y", "x"))), (Twice, "x"))
        self.assertEqual(fault(model(2, ("x",), (belt,))), (Twice, "x"))
        self.assertEqual(fault(model(2, (), (belt, other))), (Twice, "x"))
        self.assertEqual(fault(model(2, (), (belt,), (process("x"),))), (Twice, "x"))
        self.assertEqual(fault(model(2, (), (), (process("x"), process("x")))), (Twice, "x"))
        self.assertEqual(fault(model(2, ("a", "b", "b", "a"))), (Twice, "b"))
        self.assertEqual(fault(model(2, ("a", "b"), (), (process("b"), process("a")))), (Twice, "b"))

    def test_marks_are_apart(self):
        once = (("mark", "p"), ("mark", "s"), ("mark", "s"))
        self.assertEqual(fault(model(2, ("s",), (), (process("p", 0, once),))), (4,))

    def test_twice_comes_ahead_of_the_items(self):
        bad = ("store", "x", -1, 0)
        self.assertEqual(fault(model(2, ("x",), (bad,))), (Twice, "x"))


class Items(unittest.TestCase):
    def test_resources(self):
        self.assertEqual(of_items(("resource", "r", ((0, 1), (4, 9)))), ())
        for units in (-1, 5, 100, -100):
            self.assertEqual(of_items(("resource", "r", ((1, 1), (units, 0)))), (BadNumber, units))
        for ticks in (-1, 0, 10):
            self.assertEqual(of_items(("resource", "r", ((1, ticks), (9, 9)))), (BadNumber, ticks))

    def test_spans(self):
        self.assertEqual(of_items(("resource", "r", ((1, 1),) * 4)), ())
        self.assertEqual(of_items(("resource", "r", ((1, 1),) * 5)), (TooLarge, "r"))
        self.assertEqual(of_items(("resource", "r", ((-1, 0),) * 5)), (TooLarge, "r"))

    def test_stores_and_counters(self):
        for kind in ("store", "counter"):
            for start, top in ((0, 1), (1, 1), (0, 9), (9, 9)):
                self.assertEqual(of_items((kind, "c", start, top)), ())
            for top in (-1, 0, 10, 100):
                self.assertEqual(of_items((kind, "c", 0, top)), (BadNumber, top))
            self.assertEqual(of_items((kind, "c", -1, 5)), (BadNumber, -1))
            self.assertEqual(of_items((kind, "c", -1, 0)), (BadNumber, -1))
            self.assertEqual(of_items((kind, "c", 6, 5)), (BadNumber, 6))
            self.assertEqual(of_items((kind, "c", 50, 5)), (BadNumber, 50))
            self.assertEqual(of_items((kind, "c", 6, 0)), (BadNumber, 0))
            self.assertEqual(of_items((kind, "c", 50, 10)), (BadNumber, 10))

    def test_belts(self):
        for length, room in ((1, None), (9, None), (1, 1), (9, 9)):
            self.assertEqual(of_items(("belt", "b", length, room)), ())
        for length in (-1, 0, 10):
            self.assertEqual(of_items(("belt", "b", length, 0)), (BadNumber, length))
            self.assertEqual(of_items(("belt", "b", length, None)), (BadNumber, length))
        for room in (-1, 0, 10):
            self.assertEqual(of_items(("belt", "b", 1, room)), (BadNumber, room))

    def test_the_first_item_counts(self):
        good, bad, large = ("store", "c", 0, 1), ("belt", "b", 0, 0), ("resource", "r", ((1, 1),) * 5)
        self.assertEqual(of_items(good, bad, large), (BadNumber, 0))
        self.assertEqual(of_items(good, large, bad), (TooLarge, "r"))

    def test_items_come_ahead_of_processes(self):
        bad = process("p", 10)
        self.assertEqual(fault(model(2, (), (("store", "c", 0, 0),), (bad,))), (BadNumber, 0))


class Processes(unittest.TestCase):
    def test_start(self):
        for start in (0, 9):
            self.assertEqual(fault(model(2, (), (), (process("p", start),))), (1,))
        for start in (-1, 10, 100):
            bad = process("p", start, (("hold", 0),))
            self.assertEqual(fault(model(2, (), (), (bad,))), (BadNumber, start))

    def test_once_then_cycle_then_endless_then_the_next_process(self):
        bad, worse = (("hold", 0),), (("hold", 10),)
        self.assertEqual(fault(tree(bad, cycle=worse)), (BadNumber, 0))
        self.assertEqual(fault(tree(MARK, cycle=worse)), (BadNumber, 10))
        self.assertEqual(fault(tree(bad, cycle=MARK)), (BadNumber, 0))
        rows = (process("p", 0, (), MARK), process("q", 10))
        self.assertEqual(fault(model(2, (), (), rows)), (Endless, "p"))
        rows = (process("p", 0, (), HOLD), process("q", 0, (), MARK))
        self.assertEqual(fault(model(2, (), (), rows)), (Endless, "q"))

    def test_cycles_that_pause_and_that_do_not(self):
        def of_cycle(*cycle):
            return fault(tree((), ITEMS, ("s",), cycle))
        endless = (Endless, "p")
        arms = (((0,), HOLD), ((1,), HOLD))
        self.assertEqual(of_cycle(), (1,))
        self.assertEqual(of_cycle(*HOLD), (5,))
        self.assertEqual(of_cycle(("stop",)), (3,))
        self.assertEqual(of_cycle(("end",)), (3,))
        self.assertEqual(of_cycle(*MARK), endless)
        self.assertEqual(of_cycle(("take", (("c", 1),))), endless)
        self.assertEqual(of_cycle(("unload", "b")), endless)
        self.assertEqual(of_cycle(("interrupt", "p")), endless)
        self.assertEqual(of_cycle(("draw", "s", arms)), (11,))
        self.assertEqual(of_cycle(("draw", "s", (arms[0], ((1,), MARK)))), endless)
        self.assertEqual(of_cycle(("use", "r", 0, None, HOLD, ())), (9,))
        self.assertEqual(of_cycle(("use", "r", 0, 1, MARK, HOLD)), endless)
        self.assertEqual(of_cycle(("if", "free", "r", 1, HOLD, ())), endless)
        self.assertEqual(of_cycle(("if", "free", "r", 1, HOLD, HOLD)), (11,))
        self.assertEqual(of_cycle(("loop", 3, HOLD)), (15,))
        self.assertEqual(of_cycle(("loop", 3, MARK)), endless)
        self.assertEqual(of_cycle(("guard", HOLD, MARK)), endless)
        self.assertEqual(of_cycle(("guard", HOLD, HOLD)), (13,))

    def test_bounds(self):
        self.assertEqual(check(EXAMPLE), (9,))
        rows = (process("p", 0, MARK * 3, HOLD), process("q"), process("w", 9, HOLD, HOLD + MARK))
        self.assertEqual(check(model(2, (), (), rows)), (1 + 3 + 4, 1, 1 + 2 + 6))
        inner = ("loop", 9, (("loop", 9, MARK), *HOLD))
        self.assertEqual(check(tree((inner,), cycle=(inner,))), (1 + 3 * (1 + 9 * (1 + 9 + 2)),))

    def test_nothing_is_changed_and_asking_again_is_the_same(self):
        self.assertEqual(check(EXAMPLE), check(EXAMPLE))
        self.assertEqual(of_statement(("hold", 0)), of_statement(("hold", 0)))


class Statements(unittest.TestCase):
    def assert_let(self, *statements):
        self.assertIsInstance(of_statement(*statements)[0], int)

    def test_numbers_from_1_to_9(self):
        for make in (
            lambda n: ("hold", n), lambda n: ("add", "k", n), lambda n: ("drop", "k", n),
            lambda n: ("loop", n, ()), lambda n: ("use", "r", 0, n, (), ()),
        ):
            for n in (1, 5, 9):
                self.assert_let(make(n))
            for n in (-100, -1, 0, 10, 100):
                self.assertEqual(of_statement(make(n)), (BadNumber, n))

    def test_numbers_from_0_to_9(self):
        for make in (
            lambda n: ("use", "r", n, None, (), ()), lambda n: ("if", "free", "r", n, (), ()),
            lambda n: ("use", "r", n, 1, (), ()),
        ):
            for n in (0, 5, 9):
                self.assert_let(make(n))
            for n in (-100, -1, 10, 100):
                self.assertEqual(of_statement(make(n)), (BadNumber, n))

    def test_kinds_of_names(self):
        names = {"stream": "s", "resource": "r", "store": "c", "belt": "b", "counter": "k",
                 "process": "p"}
        makers = (
            ("counter", lambda name: ("add", name, 1)), ("counter", lambda name: ("drop", name, 1)),
            ("belt", lambda name: ("load", name)), ("belt", lambda name: ("unload", name)),
            ("process", lambda name: ("interrupt", name)),
            ("store", lambda name: ("put", ((name, 1),))),
            ("store", lambda name: ("take", ((name, 1),))),
            ("stream", lambda name: ("draw", name, (((0, 1), ()),))),
            ("resource", lambda name: ("use", name, 0, None, (), ())),
            ("resource", lambda name: ("if", "free", name, 0, (), ())),
            ("resource", lambda name: ("if", "queue", name, 0, (), ())),
            ("store", lambda name: ("if", "store", name, 0, (), ())),
            ("belt", lambda name: ("if", "belt", name, 0, (), ())),
            ("counter", lambda name: ("if", "counter", name, 0, (), ())),
        )
        for needed, make in makers:
            for kind, name in names.items():
                if kind == needed:
                    self.assert_let(make(name))
                else:
                    self.assertEqual(of_statement(make(name)), (BadUse, name))
            self.assertEqual(of_statement(make("nobody")), (Unknown, "nobody"))
            self.assertEqual(of_statement(("mark", "nobody"), make("nobody")), (Unknown, "nobody"))

    def test_names_come_ahead_of_numbers(self):
        for statement in (
            ("add", "x", 0), ("drop", "x", 10), ("put", (("x", 0),)), ("draw", "x", (((7,), ()),)),
            ("use", "x", 10, 0, (), ()), ("if", "belt", "x", 10, (), ()),
        ):
            self.assertEqual(of_statement(statement), (Unknown, "x"))

    def test_use_tells_rank_ahead_of_patience(self):
        self.assertEqual(of_statement(("use", "r", 10, 0, (), ())), (BadNumber, 10))
        self.assertEqual(of_statement(("use", "r", 9, 0, (), ())), (BadNumber, 0))

    def test_interrupt_of_a_process_that_comes_later(self):
        rows = (process("p", 0, (("interrupt", "q"),)), process("q"))
        self.assertEqual(fault(model(2, (), (), rows)), (2, 1))

    def test_parts(self):
        for word in ("put", "take"):
            self.assert_let((word, (("c", 1),)))
            self.assert_let((word, (("c", 5), ("d", 3))))
            for n in (-1, 0, 6):
                self.assertEqual(of_statement((word, (("c", n),))), (BadNumber, n))
            self.assertEqual(of_statement((word, (("c", 5), ("d", 4)))), (BadNumber, 4))
            self.assertEqual(of_statement((word, (("c", 5), ("c", 0)))), (Twice, "c"))
            self.assertEqual(of_statement((word, (("c", 9), ("c", 1)))), (BadNumber, 9))
            self.assertEqual(of_statement((word, (("c", 1), ("x", 1)))), (Unknown, "x"))
            self.assertEqual(of_statement((word, (("c", 1), ("k", 1)))), (BadUse, "k"))
            self.assertEqual(of_statement((word, (("x", 1), ("c", 0)))), (Unknown, "x"))
            self.assertEqual(of_statement((word, (("x", 1),) * 5)), (TooLarge, "parts"))
            self.assertEqual(of_statement((word, (("x", 1),) * 4)), (Unknown, "x"))

    def test_four_parts(self):
        stores = tuple(("store", f"c{k}", 0, 9) for k in range(5))
        parts = tuple((f"c{k}", 9) for k in range(5))
        self.assertEqual(fault(tree((("put", parts[:4]),), stores))[0], 6)
        self.assertEqual(fault(tree((("take", parts),), stores)), (TooLarge, "parts"))

    def test_digits_of_arms(self):
        def of_arms(base, *rows):
            arms = tuple((digits, ()) for digits in rows)
            return fault(tree((("draw", "s", arms),), (), ("s",), base=base))
        self.assertIsInstance(of_arms(2, (0, 1))[0], int)
        self.assertIsInstance(of_arms(3, (2,), (1, 0))[0], int)
        self.assertEqual(of_arms(2, (0, 2)), (BadNumber, 2))
        self.assertEqual(of_arms(2, (-1,), (7,)), (BadNumber, -1))
        self.assertEqual(of_arms(2, (0,), (0,), (2,)), (BadNumber, 0))
        self.assertEqual(of_arms(3, (1, 1)), (BadNumber, 1))
        self.assertEqual(of_arms(2, (0,)), (BadNumber, 1))
        self.assertEqual(of_arms(6, (5, 3), (0,)), (BadNumber, 1))
        self.assertEqual(of_arms(3, (2,)), (BadNumber, 0))
        self.assertEqual(of_arms(3, (2,), (2,)), (BadNumber, 2))

    def test_own_faults_come_ahead_of_those_inside(self):
        bad = (("hold", 0),)
        self.assertEqual(of_statement(("loop", 10, bad)), (BadNumber, 10))
        self.assertEqual(of_statement(("draw", "s", (((0,), bad),))), (BadNumber, 1))
        self.assertEqual(of_statement(("use", "r", 0, 10, bad, ())), (BadNumber, 10))
        self.assertEqual(of_statement(("if", "free", "x", 0, bad, ())), (Unknown, "x"))

    def test_bodies_inside_are_gone_through_from_left_to_right(self):
        low, high = (("hold", 0),), (("hold", 10),)
        for statement in (
            ("guard", low, high), ("use", "r", 0, 1, low, high), ("if", "free", "r", 0, low, high),
            ("draw", "s", (((0,), low), ((1,), high))),
        ):
            self.assertEqual(of_statement(statement), (BadNumber, 0))
            self.assertEqual(of_statement(statement, ("hold", 11)), (BadNumber, 0))
        self.assertEqual(of_statement(("guard", (), high), ("hold", 0)), (BadNumber, 10))
        self.assertEqual(of_statement(("use", "r", 0, 1, (), high)), (BadNumber, 10))
        self.assertEqual(of_statement(("draw", "s", (((0,), ()), ((1,), high)))), (BadNumber, 10))


def nested(many, inner):
    """A statement inside of so many loops."""
    body = (inner,)
    for _ in range(many):
        body = (("loop", 1, body),)
    return body[0]


class Sizes(unittest.TestCase):
    def test_statements(self):
        self.assertEqual(fault(tree(MARK * 60, cycle=())), (61,))
        self.assertEqual(fault(tree(MARK * 61, cycle=())), (TooLarge, "statements"))
        self.assertEqual(fault(tree(MARK * 59, cycle=HOLD)), (64,))
        self.assertEqual(fault(tree(MARK * 60, cycle=HOLD)), (TooLarge, "statements"))

    def test_statements_inside_and_of_all_processes_are_counted(self):
        loop = ("loop", 1, MARK * 29)
        self.assertEqual(fault(tree((loop,) * 2, cycle=())), (61,))
        self.assertEqual(fault(tree((loop, *MARK), cycle=(loop,))), (TooLarge, "statements"))
        rows = (process("p", 0, MARK * 30), process("q", 0, MARK * 30))
        self.assertEqual(fault(model(2, (), (), rows)), (31, 31))
        rows = (process("p", 0, MARK * 30), process("q", 0, MARK * 31))
        self.assertEqual(fault(model(2, (), (), rows)), (TooLarge, "statements"))

    def test_the_count_comes_ahead_of_what_is_counted(self):
        bad = (("hold", 0),)
        self.assertEqual(fault(tree(MARK * 60 + bad, cycle=())), (TooLarge, "statements"))
        self.assertEqual(fault(tree(MARK * 59 + bad + MARK, cycle=())), (BadNumber, 0))
        deep = nested(7, ("mark", "a"))
        self.assertEqual(fault(tree(MARK * 53 + (deep,), cycle=())), (TooLarge, "statements"))
        self.assertEqual(fault(tree(MARK * 52 + (deep,), cycle=())), (TooLarge, "depth"))

    def test_depth(self):
        self.assertEqual(of_statement(nested(6, ("mark", "a")))[0], 1 + 6 + 1 + 4)
        self.assertEqual(of_statement(nested(7, ("mark", "a"))), (TooLarge, "depth"))
        self.assertEqual(of_statement(nested(7, ("hold", 0))), (TooLarge, "depth"))
        self.assertEqual(of_statement(nested(6, ("hold", 0))), (BadNumber, 0))
        self.assertEqual(of_statement(nested(18, ("hold", 0))), (TooLarge, "depth"))

    def test_depth_in_the_cycle(self):
        self.assertEqual(fault(tree((), cycle=(nested(6, ("hold", 1)),))), (1 + 2 * (6 + 2),))
        self.assertEqual(fault(tree((), cycle=(nested(7, ("hold", 1)),))), (TooLarge, "depth"))

    def test_all_statements_with_bodies_count_for_the_depth(self):
        inner = MARK
        for wrap in (
            lambda body: ("guard", (), body), lambda body: ("use", "r", 0, 1, (), body),
            lambda body: ("if", "free", "r", 0, (), body), lambda body: ("loop", 1, body),
            lambda body: ("draw", "s", (((0,), ()), ((1,), body))),
            lambda body: ("guard", body, ()),
        ):
            inner = (wrap(inner),)
        self.assertIsInstance(of_statement(*inner)[0], int)
        self.assertEqual(of_statement(("loop", 1, inner)), (TooLarge, "depth"))


if __name__ == "__main__":
    unittest.main()
