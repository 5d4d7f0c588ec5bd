"""Points [14] and [16]: frames, traces, and what is shown."""

import unittest

from helpers import EXAMPLE, let

from meantrace.errors import Dry
from meantrace.histories import history, shown_of


class Histories(unittest.TestCase):
    def test_frames_are_those_of_the_ends_of_ticks(self):
        model = let("""model 2 streams { resource r plan 1 for 9 ; store c 1 of 9 ;
            process p at 0 { put c 1 ; use r rank 0 { hold 1 ; } put c 2 ; } cycle { } }""")
        frames, trace = history(model, (), ticks=3)
        self.assertEqual(frames, ((1, 0, 2), (0, 0, 4), (0, 0, 4)))
        self.assertEqual(trace, (
            (0, "p", "wake", "", 0), (0, "p", "put", "c", 1), (0, "p", "ask", "r", 0),
            (0, "p", "get", "r", 0), (0, "p", "hold", "", 1), (1, "p", "wake", "", 0),
            (1, "p", "give", "r", 0), (1, "p", "put", "c", 2),
        ))

    def test_no_ticks(self):
        self.assertEqual(history(EXAMPLE, ((),), ticks=0), ((), ()))

    def test_no_gauges(self):
        frames, trace = history(EXAMPLE, ((0, 1),), ticks=2)
        self.assertEqual(frames, ((), ()))
        self.assertEqual(len(trace), 7)

    def test_ticks_behind_the_end(self):
        model = let("model 2 streams { counter k 3 of 5 ; process p at 0 { end ; } cycle { hold 1 ; } }")
        self.assertEqual(history(model, (), ticks=3), (
            ((3,),) * 3, ((0, "p", "wake", "", 0), (0, "p", "end", "", 0)),
        ))

    def test_dry(self):
        with self.assertRaises(Dry) as caught:
            history(EXAMPLE, ((0, 1),), ticks=3)
        self.assertEqual(caught.exception.name, "s")
        self.assertEqual(len(history(EXAMPLE, ((0, 1),), ticks=2)[0]), 2)

    def test_many_ticks(self):
        frames, trace = history(EXAMPLE, ((1,) * 200,), ticks=200)
        self.assertEqual((len(frames), len(trace)), (200, 600))

    def test_ticks_are_passed_by_name(self):
        with self.assertRaises(TypeError):
            history(EXAMPLE, ((0, 1),), 2)


class Shown(unittest.TestCase):
    def test_marks_in_order(self):
        model = let("""model 2 streams { store a 0 of 5 ; process p at 0 { mark b ; put a 1 ; mark a ; mark b ; }
            cycle { } process q at 0 { mark p ; } cycle { } }""")
        _, trace = history(model, (), ticks=1)
        self.assertEqual(shown_of(trace), ("b", "a", "b", "p"))
        self.assertEqual(shown_of(()), ())
        self.assertEqual(shown_of(trace[:1]), ())


if __name__ == "__main__":
    unittest.main()
