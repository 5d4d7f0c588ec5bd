"""Point [25]: visits, stays and rides, and their overlap."""

import unittest

from helpers import let

from meantrace.histories import history
from meantrace.visits import overlap, rides, stays, visits


def trace_of(text, ticks, *tapes):
    return history(let(text), tapes, ticks=ticks)[1]


QUEUE = """model 2 streams { resource r plan 1 for 9 ; resource t plan 0 for 9 ;
process p at 0 { use r rank 1 { hold 3 ; } hold 1 ; use r rank 5 { hold 9 ; } } cycle { }
process q at 1 { use r rank 1 patience 4 { hold 2 ; } else { } } cycle { }
process w at 1 { use r rank 1 patience 3 { } else { mark a ; } use t rank 0 { } } cycle { }
process v at 2 { guard { use r rank 0 { hold 9 ; } } handle { hold 1 ; use r rank 9 { } } } cycle { }
process i at 2 { hold 4 ; interrupt v ; } cycle { }
}"""


class Visits(unittest.TestCase):
    def test_each_way_to_end(self):
        # v has the lower rank and stands first, gets the unit at 3 and is broken at 6.
        self.assertEqual(visits(trace_of(QUEUE, 12), "r", 12), (
            ("p", 0, 0, "get"), ("q", 1, 5, "leave"), ("w", 1, 4, "leave"), ("v", 2, 3, "get"), ("p", 4, 6, "get"),
            ("v", 7, 12, "open"),
        ))
        self.assertEqual(visits(trace_of(QUEUE, 12), "t", 12), (("w", 4, 12, "open"),))

    def test_broken_by_an_interrupt(self):
        text = """model 2 streams { resource r plan 0 for 9 ; resource t plan 0 for 9 ;
            process p at 0 { guard { use r rank 0 { } } handle { use t rank 0 { } } } cycle { }
            process q at 2 { interrupt p ; interrupt p ; } cycle { }
            process w at 1 { guard { hold 9 ; } handle { } use r rank 0 { } } cycle { }
            process v at 3 { interrupt w ; } cycle { } }"""
        trace = trace_of(text, 6)
        # Unguarded at last, p is not broken at t; w was not asking when it was broken.
        self.assertEqual(visits(trace, "r", 6), (("p", 0, 2, "broken"), ("w", 3, 6, "open")))
        self.assertEqual(visits(trace, "t", 6), (("p", 2, 6, "open"),))

    def test_an_interrupt_of_a_process_in_another_queue(self):
        text = """model 2 streams { resource r plan 0 for 9 ; resource t plan 1 for 9 ;
            process p at 0 { use t rank 0 { guard { use r rank 0 { } } handle { } } } cycle { }
            process q at 0 { use t rank 0 { } } cycle { }
            process w at 2 { interrupt p ; } cycle { } }"""
        trace = trace_of(text, 4)
        self.assertEqual(visits(trace, "r", 4), (("p", 0, 2, "broken"),))
        self.assertEqual(visits(trace, "t", 4), (("p", 0, 0, "get"), ("q", 0, 2, "get")))

    def test_several_visits_of_one_process_in_one_tick(self):
        text = "model 2 streams { resource r plan 1 for 9 ; process p at 0 { loop 3 { use r rank 0 { } } } cycle { } }"
        self.assertEqual(visits(trace_of(text, 2), "r", 2), (("p", 0, 0, "get"),) * 3)

    def test_none(self):
        self.assertEqual(visits((), "r", 0), ())
        self.assertEqual(visits(trace_of(QUEUE, 12), "other", 12), ())


class Stays(unittest.TestCase):
    def test_each_way_to_end(self):
        # The unit of v is given back behind `broken`, and p has the next one.
        self.assertEqual(stays(trace_of(QUEUE, 12), "r", 12), (
            ("p", 0, 3, "give"), ("v", 3, 6, "give"), ("p", 6, 12, "open"),
        ))
        self.assertEqual(stays(trace_of(QUEUE, 12), "t", 12), ())
        self.assertEqual(stays(trace_of(QUEUE, 16), "r", 16)[2:], (("p", 6, 15, "give"), ("v", 15, 15, "give")))

    def test_several_units_of_one_process(self):
        text = """model 2 streams { resource r plan 4 for 9 ;
            process p at 0 { use r rank 0 { hold 1 ; use r rank 0 { hold 2 ; } hold 1 ; use r rank 0 { hold 3 ; stop ; } } }
            cycle { } process q at 2 { use r rank 0 { hold 9 ; } } cycle { } }"""
        # The one that was got last is given back first; with `stop` all are.
        self.assertEqual(stays(trace_of(text, 10), "r", 10), (
            ("p", 0, 7, "give"), ("p", 1, 3, "give"), ("q", 2, 10, "open"), ("p", 4, 7, "give"),
        ))
        self.assertEqual(stays(trace_of(text, 5), "r", 5), (
            ("p", 0, 5, "open"), ("p", 1, 3, "give"), ("q", 2, 5, "open"), ("p", 4, 5, "open"),
        ))

    def test_units_of_two_resources(self):
        text = """model 2 streams { resource r plan 1 for 9 ; resource t plan 1 for 9 ;
            process p at 0 { use r rank 0 { hold 1 ; use t rank 0 { hold 1 ; } hold 1 ; } } cycle { } }"""
        self.assertEqual(stays(trace_of(text, 5), "r", 5), (("p", 0, 3, "give"),))
        self.assertEqual(stays(trace_of(text, 5), "t", 5), (("p", 1, 2, "give"),))
        self.assertEqual(stays((), "t", 5), ())


class Rides(unittest.TestCase):
    TEXT = """model 2 streams { belt b length 2 ; belt e length 1 ;
        process p at 0 { load b ; load b ; hold 1 ; load b ; load e ; } cycle { }
        process q at 3 { unload b ; hold 1 ; unload b ; unload b ; } cycle { } }"""

    def test_first_in_first_out(self):
        self.assertEqual(rides(trace_of(self.TEXT, 7), "b", 7), ((0, 3, "unload"), (0, 4, "unload"), (1, 4, "unload")))
        self.assertEqual(rides(trace_of(self.TEXT, 7), "e", 7), ((1, 7, "open"),))

    def test_open(self):
        self.assertEqual(rides(trace_of(self.TEXT, 4), "b", 4), ((0, 3, "unload"), (0, 4, "open"), (1, 4, "open")))
        self.assertEqual(rides((), "b", 4), ())


class Overlaps(unittest.TestCase):
    def test_by_hand(self):
        rows = (("p", 0, 2, "get"), ("q", 1, 5, "leave"), ("p", 3, 3, "get"), ("w", 4, 6, "open"))
        self.assertEqual(overlap(rows, 0, 6), 8)
        self.assertEqual(overlap(rows, 0, 1), 1)
        self.assertEqual(overlap(rows, 1, 2), 2)
        self.assertEqual(overlap(rows, 3, 5), 3)
        self.assertEqual([overlap(rows, tick, tick + 1) for tick in range(6)], [1, 2, 1, 1, 2, 1])
        for a in range(7):
            self.assertEqual(overlap(rows, a, a), 0)

    def test_rides(self):
        self.assertEqual(overlap(((0, 3, "unload"), (2, 7, "open")), 1, 6), 6)

    def test_until_is_since(self):
        self.assertEqual(overlap((("p", 3, 3, "get"),), 0, 9), 0)
        self.assertEqual(overlap((), 0, 9), 0)


if __name__ == "__main__":
    unittest.main()
