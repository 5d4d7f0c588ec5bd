"""Point [18]: the tapes that a trace tells, and judged traces."""

import unittest

from helpers import EXAMPLE, let

from meantrace.histories import history
from meantrace.replays import judge_trace, tapes_of

TEXT = """
model 3 streams s t u { store c 0 of 9 ;
process p at 0 { } cycle { draw t { at 0 { mark a ; } at 1 2 { } } draw s { at 0 1 2 { } } put c 1 ; hold 1 ; }
process q at 1 { } cycle { draw t { at 0 1 { mark b ; } at 2 { mark c ; } } hold 1 ; }
}
"""
TAPES = ((0, 1, 2, 0), (1, 2, 0, 0, 1, 2, 0), (2, 2))


class Tapes(unittest.TestCase):
    def test_one_for_each_stream(self):
        model = let(TEXT)
        _, trace = history(model, TAPES, ticks=3)
        self.assertEqual(tapes_of(model, trace), ((0, 1, 2), (1, 2, 0, 0, 1), ()))
        self.assertEqual(tapes_of(model, ()), ((), (), ()))
        self.assertEqual(tapes_of(let("model 2 streams { }"), ()), ())

    def test_only_draws_count(self):
        trace = ((0, "p", "hold", "s", 1), (0, "p", "draw", "s", 2), (0, "q", "draw", "s", 0))
        self.assertEqual(tapes_of(let(TEXT), trace), ((2, 0), (), ()))


class Judge(unittest.TestCase):
    def setUp(self):
        self.model = let(TEXT)
        _, self.trace = history(self.model, TAPES, ticks=4)

    def takes(self, trace, ticks=4):
        found = judge_trace(self.model, ticks, trace)
        self.assertIsInstance(found, bool)
        return found

    def test_right_traces(self):
        self.assertTrue(self.takes(self.trace))
        self.assertTrue(self.takes((), 0))
        for tapes in ((TAPES[1], TAPES[1], ()), ((2,) * 9, (2,) * 9, ())):
            self.assertTrue(self.takes(history(self.model, tapes, ticks=4)[1]))

    def test_too_few_and_too_many_ticks(self):
        self.assertFalse(self.takes(self.trace, 3))
        self.assertFalse(self.takes(self.trace, 5))
        self.assertFalse(self.takes((), 1))
        self.assertFalse(self.takes(self.trace, 0))
        self.assertFalse(self.takes(self.trace, 200))

    def test_quiet_ticks(self):
        model = let("model 2 streams { process p at 0 { hold 3 ; } cycle { } }")
        trace = ((0, "p", "wake", "", 0), (0, "p", "hold", "", 3))
        for ticks in (1, 2, 3):
            self.assertIs(judge_trace(model, ticks, trace), True)
        self.assertIs(judge_trace(model, 4, trace), False)
        self.assertIs(judge_trace(model, 200, (*trace, (3, "p", "wake", "", 0))), True)

    def test_events_left_out_or_doubled(self):
        for at in range(len(self.trace)):
            self.assertFalse(self.takes(self.trace[:at] + self.trace[at + 1:]))
            self.assertFalse(self.takes(self.trace[:at + 1] + self.trace[at:]))

    def test_events_exchanged(self):
        for at in range(len(self.trace) - 1):
            first, second = self.trace[at:at + 2]
            self.assertFalse(self.takes((*self.trace[:at], second, first, *self.trace[at + 2:])))

    def test_events_changed(self):
        for at, event in enumerate(self.trace):
            rows = [
                (event[0] + 1, *event[1:]), (-1, *event[1:]), (event[0], "x", *event[2:]),
                (*event[:2], "", *event[3:]), (*event[:3], "nobody", event[4]),
            ]
            if event[2] != "draw":
                rows.append((*event[:4], event[4] + 1))
            for row in rows:
                self.assertFalse(self.takes((*self.trace[:at], row, *self.trace[at + 1:])), row)

    def test_strange_digits(self):
        (at,) = [at for at, event in enumerate(self.trace) if event[:4] == (0, "p", "draw", "t")]
        for digit in (-1, 3, 9, 10 ** 399, -10 ** 399):
            row = (0, "p", "draw", "t", digit)
            self.assertFalse(self.takes((*self.trace[:at], row, *self.trace[at + 1:])))
        # With another digit that leads to the same it is the trace of other tapes.
        row = (0, "p", "draw", "t", 2)
        self.assertTrue(self.takes((*self.trace[:at], row, *self.trace[at + 1:])))
        # With a digit that leads elsewhere it is none.
        row = (0, "p", "draw", "t", 0)
        self.assertFalse(self.takes((*self.trace[:at], row, *self.trace[at + 1:])))

    def test_draws_with_strange_digits_beside_the_right_ones(self):
        for at, event in enumerate(self.trace):
            if event[2] == "draw":
                for digit in (-1, 3, 10 ** 399):
                    row = (*event[:4], digit)
                    self.assertFalse(self.takes((*self.trace[:at], row, *self.trace[at:])))
                    self.assertFalse(self.takes((*self.trace[:at + 1], row, *self.trace[at + 1:])))

    def test_strange_events(self):
        for row in ((0, "", "", "", 0), (10 ** 399, "p", "draw", "nobody", 7), (0, "p", "draw", "c", 0),
                    (-5, "p", "draw", "u", 0), (0, "p", "draw", "u", 5)):
            self.assertFalse(self.takes((*self.trace, row)))
            self.assertFalse(self.takes((row, *self.trace)))
            self.assertFalse(self.takes((row,)))

    def test_the_example(self):
        _, trace = history(EXAMPLE, ((0, 1),), ticks=2)
        self.assertIs(judge_trace(EXAMPLE, 2, trace), True)
        self.assertIs(judge_trace(EXAMPLE, 2, trace[:-1]), False)


if __name__ == "__main__":
    unittest.main()
