"""Point [24]: tallies from the trace alone, against those from the frames; and the overlaps of point [25]."""

import unittest

from helpers import let
from random_models import random_model, random_queues, random_tapes

from meantrace.errors import Dry
from meantrace.gauges import gauges
from meantrace.histories import history
from meantrace.tallies import gauge_tally, tally_of
from meantrace.traced import traced_tally
from meantrace.visits import overlap, rides, stays, visits

COUNTED = {
    "busy": ("get", "give"), "queue": ("ask", "get", "leave", "interrupt"), "store": ("put", "take"),
    "belt": ("load", "unload"), "counter": ("add", "drop"),
}


class Kinds(unittest.TestCase):
    def assert_tallies(self, text, gauge, values, *tapes):
        model = let(text)
        ticks = len(values)
        frames, trace = history(model, tapes, ticks=ticks)
        number = gauges(model).index(gauge)
        for a in range(ticks + 1):
            for b in range(a, ticks + 1):
                told = tally_of(tuple(values[a:b]))
                self.assertEqual(traced_tally(model, trace, gauge, a, b), told)
                self.assertEqual(gauge_tally(frames, number, a, b), told)

    def test_store(self):
        text = """model 2 streams {{ store c 2 of 9 ; store d 1 of 5 ;
            process p at 1 {{ put c 3 , d 1 ; hold 1 ; take c 4 ; put c 1 ; {} }} cycle {{ }} }}"""
        self.assert_tallies(text.format(""), ("store", "c"), (2, 5, 2, 2))
        self.assert_tallies(text.format("take d 2 ;"), ("store", "d"), (1, 2, 0, 0))

    def test_belt(self):
        self.assert_tallies("""model 2 streams { belt b length 2 room 2 ;
            process p at 0 { loop 3 { load b ; } } cycle { } process q at 3 { } cycle { unload b ; hold 2 ; } }""",
                            ("belt", "b"), (2, 2, 2, 2, 2, 1, 1, 0))

    def test_counter(self):
        self.assert_tallies("""model 2 streams { counter k 3 of 5 ;
            process p at 1 { add k 4 ; hold 1 ; drop k 9 ; hold 1 ; add k 1 ; drop k 1 ; add k 2 ; } cycle { } }""",
                            ("counter", "k"), (3, 5, 0, 2, 2))

    def test_busy(self):
        self.assert_tallies("""model 2 streams { resource r plan 3 for 9 ;
            process p at 0 { guard { use r rank 0 { use r rank 0 { hold 9 ; } } } handle { use r rank 0 { hold 2 ; stop ; } } }
            cycle { } process q at 2 { hold 1 ; interrupt p ; } cycle { use r rank 0 { hold 9 ; } } }""",
                            ("busy", "r"), (2, 2, 2, 2, 2, 1, 1))

    def test_queue(self):
        text = """model 2 streams {{ resource r plan 0 for 9 ;
            process p at 0 {{ guard {{ use r rank 0 {{ }} }} handle {{ hold 9 ; }} }} cycle {{ }}
            process q at 1 {{ use r rank 0 patience 3 {{ }} else {{ }} }} cycle {{ }}
            process w at 2 {{ guard {{ hold 9 ; }} handle {{ hold 9 ; }} }} cycle {{ }}
            process v at 3 {{ {} }} cycle {{ }} }}"""
        self.assert_tallies(text.format(""), ("queue", "r"), (1, 2, 2, 2, 1))
        self.assert_tallies(text.format("interrupt p ;"), ("queue", "r"), (1, 2, 2, 1, 0))
        self.assert_tallies(text.format("interrupt p ; interrupt p ; interrupt p ;"), ("queue", "r"), (1, 2, 2, 1, 0))
        # w is not asking, and q is not guarded.
        self.assert_tallies(text.format("interrupt w ; interrupt q ;"), ("queue", "r"), (1, 2, 2, 2, 1))

    def test_an_interrupt_of_a_process_in_the_other_queue(self):
        text = """model 2 streams { resource r plan 0 for 9 ; resource t plan 0 for 9 ;
            process p at 0 { guard { use r rank 0 { } } handle { use t rank 0 { } } } cycle { }
            process q at 0 { use t rank 0 { } } cycle { }
            process w at 2 { interrupt p ; } cycle { } }"""
        self.assert_tallies(text, ("queue", "r"), (1, 1, 0, 0))
        self.assert_tallies(text, ("queue", "t"), (1, 1, 2, 2))

    def test_names_of_marks_are_apart(self):
        self.assert_tallies("""model 2 streams { store c 2 of 9 ; belt b length 1 ;
            process p at 0 { mark c ; mark b ; if store c 1 { } } cycle { mark c ; hold 1 ; } }""", ("store", "c"), (2, 2))

    def test_behind_the_end(self):
        self.assert_tallies("""model 2 streams { store c 2 of 9 ; process p at 1 { put c 1 ; end ; } cycle { } }""",
                            ("store", "c"), (2, 3, 3, 3))


class Traces(unittest.TestCase):
    TEXT = """model 2 streams { store c 0 of 9 ; process p at 0 { } cycle { put c 1 ; hold 1 ; } }"""

    def test_events_from_tick_b_on_do_not_count(self):
        model = let(self.TEXT)
        _, trace = history(model, (), ticks=6)
        for b in range(7):
            self.assertEqual(traced_tally(model, trace, ("store", "c"), 0, b), tally_of(tuple(range(1, b + 1))))
            self.assertEqual(traced_tally(model, trace, ("store", "c"), b, b), (0, 0, 0, None, None))

    def test_no_ticks(self):
        model = let(self.TEXT)
        self.assertEqual(traced_tally(model, (), ("store", "c"), 0, 0), (0, 0, 0, None, None))

    def test_no_events(self):
        model = let("model 2 streams { store c 4 of 9 ; counter k 5 of 6 ; resource r plan 1 for 1 ; belt b length 1 ; }")
        self.assertEqual(traced_tally(model, (), ("store", "c"), 1, 3), (2, 8, 32, 4, 4))
        self.assertEqual(traced_tally(model, (), ("counter", "k"), 0, 1), (1, 5, 25, 5, 5))
        for gauge in (("busy", "r"), ("queue", "r"), ("belt", "b")):
            self.assertEqual(traced_tally(model, (), gauge, 0, 2), (2, 0, 0, 0, 0))


class RandomModels(unittest.TestCase):
    def test_tallies_and_overlaps(self):
        ticks, several = 20, {}
        for model, seed in [(random_model(seed), seed) for seed in range(150)] + [
                (random_queues(seed), seed) for seed in range(50)]:
            try:
                frames, trace = history(model, random_tapes(model, seed, 90), ticks=ticks)
            except Dry:
                continue
            for number, gauge in enumerate(gauges(model)):
                told = tuple(event for event in trace if event[2] in COUNTED[gauge[0]])
                for a, b in ((0, ticks), (0, 7), (5, 12), (13, ticks), (9, 10), (9, 9)):
                    tally = gauge_tally(frames, number, a, b)
                    self.assertEqual(traced_tally(model, trace, gauge, a, b), tally, (seed, gauge))
                    self.assertEqual(traced_tally(model, told, gauge, a, b), tally, (seed, gauge))
                self.check_overlaps(frames, number, trace, gauge, ticks, several)
        self.assertEqual(set(several), {"get", "leave", "broken", "give", "unload", "open"})
        self.assertGreater(min(several.values()), 5)

    def check_overlaps(self, frames, number, trace, gauge, ticks, several):
        find = {"queue": visits, "busy": stays, "belt": rides}.get(gauge[0])
        if find is None:
            return
        rows = find(trace, gauge[1], ticks)
        for row in rows:
            several[row[-1]] = several.get(row[-1], 0) + 1
            self.assertLessEqual(row[-3], row[-2])
        for a in range(ticks + 1):
            for b in range(a, ticks + 1):
                self.assertEqual(overlap(rows, a, b), gauge_tally(frames, number, a, b)[1])


if __name__ == "__main__":
    unittest.main()
