"""Point [15]: the ways of a state."""

import unittest

from helpers import EXAMPLE, let, lines, one

from meantrace.errors import TooMany
from meantrace.plainruns import PlainRun
from meantrace.states import start_state
from meantrace.tapes import is_complete
from meantrace.ways import ways

MARKED = "{ at 0 { mark a ; } at 1 { mark b ; } }"


def digits_of(found):
    return tuple(digits for digits, _, _ in found)


class Ways(unittest.TestCase):
    def test_the_example(self):
        after = (0, (), (("held", 0, ((0, 1, 0), (1, -1, 0))),), (), (), (), ())
        self.assertEqual(ways(EXAMPLE, start_state(EXAMPLE)), (
            ((0,), ((0, "p", "wake", "", 0), (0, "p", "draw", "s", 0), (0, "p", "mark", "a", 0),
                    (0, "p", "hold", "", 1)), after),
            ((1,), ((0, "p", "wake", "", 0), (0, "p", "draw", "s", 1), (0, "p", "hold", "", 1)), after),
        ))

    def test_no_digit(self):
        model = let(one("mark a ;"))
        found = ways(model, start_state(model))
        self.assertEqual(digits_of(found), ((),))
        self.assertEqual(lines(found[0][1]), "p wake, p mark a, p hold 9")
        run = PlainRun(model, ())
        run.tick()
        self.assertEqual(found[0][2], run.state)

    def test_no_move(self):
        model = let("model 2 streams { process p at 3 { } cycle { } }")
        after = (0, (), (("held", 2, ((0, -1, 0),)),), (), (), (), ())
        self.assertEqual(ways(model, start_state(model)), (((), (), after),))

    def test_an_ended_run(self):
        model = let(one("end ;"))
        (found,) = ways(model, start_state(model))
        self.assertEqual(found[0], ())
        self.assertEqual(ways(model, found[2]), (((), (), found[2]),))

    def test_digits_of_several_streams_in_the_order_of_reading(self):
        model = let(f"""model 2 streams s t {{
            process p at 0 {{ draw t {MARKED} draw s {{ at 0 {{ }} at 1 {{ draw t {MARKED} }} }} }} cycle {{ }}
            }}""")
        found = ways(model, start_state(model))
        self.assertEqual(digits_of(found), (
            (0, 0), (0, 1, 0), (0, 1, 1), (1, 0), (1, 1, 0), (1, 1, 1),
        ))
        self.assertEqual(lines(found[1][1]), (
            "p wake, p draw t, p mark a, p draw s 1, p draw t, p mark a"
        ))
        self.assertTrue(is_complete(2, digits_of(found)))

    def test_events_tell_tick_0(self):
        run = PlainRun(EXAMPLE, ((0, 1, 1),))
        run.tried(2)
        run.tick()
        run.tick()
        self.assertEqual({event[0] for _, events, _ in ways(EXAMPLE, run.state) for event in events}, {0})

    def test_a_way_that_ends_the_run(self):
        model = let("""model 2 streams s { process p at 0 {
            draw s { at 0 { end ; } at 1 { } } } cycle { hold 1 ; } process q at 0 { hold 3 ; } cycle { } }""")
        found = ways(model, start_state(model))
        self.assertEqual([lines(events) for _, events, _ in found], [
            "p wake, p draw s, p end", "p wake, p draw s 1, p hold 1, q wake, q hold 3",
        ])
        self.assertEqual([state[0] for _, _, state in found], [1, 0])

    def many(self, base, body):
        """How many ways a model with this body has; None for too many."""
        model = let(f"model {base} streams s {{ process p at 0 {{ {body} }} cycle {{ hold 1 ; }} }}")
        try:
            found = ways(model, start_state(model))
        except TooMany as error:
            self.assertEqual(error.name, "ways")
            return None
        self.assertTrue(is_complete(base, digits_of(found)))
        self.assertEqual(digits_of(found), tuple(sorted(digits_of(found))))
        return len(found)

    def test_100_ways_and_one_more(self):
        # Each draw has one way that stops, and one that comes to the next draw.
        draw = "draw s { at 0 { stop ; } at 1 { } }"
        body = f"loop 9 {{ loop 9 {{ {draw} }} }} loop 9 {{ {draw} }} loop 9 {{ {draw} }}"
        self.assertEqual(self.many(2, body), 100)
        self.assertIsNone(self.many(2, f"{body} {draw}"))
        self.assertIsNone(self.many(2, f"{draw} {body}"))

    def test_products(self):
        draw = "draw s { at 0 1 2 3 4 { } }"
        self.assertEqual(self.many(5, draw * 2), 25)
        self.assertIsNone(self.many(5, draw * 3))
        split = "draw s { at 0 { } at 1 2 3 { mark a ; } at 4 { draw s { at 0 1 2 3 4 { } } } }"
        self.assertEqual(self.many(5, split * 2), 81)
        self.assertEqual(self.many(5, f"loop 2 {{ {split} }}"), 81)

    def test_96_and_101_in_base_6(self):
        draw = "draw s { at 0 1 2 3 4 { stop ; } at 5 { } }"
        body = f"loop 9 {{ loop 2 {{ {draw} }} }} {draw}"
        self.assertEqual(self.many(6, body), 96)
        self.assertIsNone(self.many(6, f"{body} {draw}"))

    def test_very_many_ways(self):
        text = """model 2 streams s { process p at 0 { } cycle {
            loop 9 { loop 9 { loop 9 { loop 9 { loop 9 { draw s { at 0 { } at 1 { } } } } } } } hold 1 ; } }"""
        model = let(text)
        with self.assertRaises(TooMany):
            ways(model, start_state(model))

    def test_many_digits_but_few_ways(self):
        # The loops stop at the first 0, so there is one way for each number of ones.
        text = """model 2 streams s { process p at 0 {
            loop 9 { loop 9 { draw s { at 0 { stop ; } at 1 { } } } } } cycle { hold 1 ; } }"""
        model = let(text)
        found = ways(model, start_state(model))
        self.assertEqual(len(found), 82)
        self.assertEqual(digits_of(found)[0], (0,))
        self.assertEqual(digits_of(found)[-1], (1,) * 81)


if __name__ == "__main__":
    unittest.main()
