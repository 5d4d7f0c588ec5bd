"""Point [22]: leaps over the ticks in which no process moves."""

import unittest

from helpers import EXAMPLE, let, lines

from meantrace.calendars import CalendarRun
from meantrace.codes import code_of
from meantrace.errors import Dry
from meantrace.flatruns import FlatRun
from meantrace.gauges import gauge_values
from meantrace.plainruns import PlainRun
from meantrace.tighten import tightened


def calendar(model, *tapes, tight=False):
    codes = code_of(model)
    if tight:
        codes = tuple(tightened(code) for code in codes)
    return CalendarRun(model, codes, tapes)


def body(text, items="", more="", cycle="hold 9 ;"):
    return let(f"model 2 streams s {{ {items} process p at 0 {{ {text} }} cycle {{ {cycle} }} {more} }}")


class Leaps(unittest.TestCase):
    def assert_leaps(self, model, limit, tapes=((),)):
        """Leaps up to the limit have the busy ticks, events and frames of the plain run; return these ticks."""
        plain = PlainRun(model, tapes)
        rows = []
        frames = [gauge_values(model, plain.state)]
        for _ in range(limit):
            rows.append(plain.tick())
            frames.append(gauge_values(model, plain.state))
        busy = [(tick, events) for tick, events in enumerate(rows) if events]
        for tight in (False, True):
            run = calendar(model, *tapes, tight=tight)
            self.assertEqual(run.frame(), frames[0])
            for tick, events in busy:
                self.assertEqual(run.leap(limit), (tick, events))
                self.assertEqual(run.clock, tick + 1)
                self.assertEqual(run.frame(), frames[tick + 1])
            self.assertIsNone(run.leap(limit))
            self.assertEqual(run.clock, max(limit, run.clock))
            self.assertEqual(run.frame(), frames[limit])
            self.assertEqual(run.reads, plain.reads)
        return [tick for tick, _ in busy]

    def test_long_holds(self):
        self.assertEqual(self.assert_leaps(body("hold 5 ; mark a ; hold 1 ;"), 40), [0, 5, 6, 15, 24, 33])

    def test_late_starts(self):
        model = let("model 2 streams { process p at 9 { } cycle { hold 9 ; } process q at 4 { stop ; } cycle { } }")
        self.assertEqual(self.assert_leaps(model, 30, ()), [4, 9, 18, 27])

    def test_patience(self):
        model = body("use r rank 0 { hold 9 ; }", "resource r plan 1 for 9 ;",
                     "process q at 1 { use r rank 0 patience 4 { } else { } stop ; } cycle { }")
        self.assertEqual(self.assert_leaps(model, 20), [0, 1, 5, 9, 18])

    def test_patience_behind_others_in_the_queue(self):
        model = body("use r rank 0 { hold 9 ; }", "resource r plan 0 for 9 , 0 for 9 , 1 for 2 ;",
                     """process q at 1 { use r rank 0 patience 4 { } else { } stop ; } cycle { }
                     process w at 2 { use r rank 0 patience 9 { } else { } stop ; } cycle { }""")
        self.assertEqual(self.assert_leaps(model, 60), [0, 1, 2, 5, 11, 18, 27, 36, 45, 54])

    def test_a_unit_ahead_of_the_end_of_patience_and_behind_it(self):
        for units, patience, ticks in ((6, 9, [0, 6]), (6, 7, [0, 6]), (6, 6, [0, 6]), (6, 5, [0, 5]), (6, 1, [0, 1])):
            model = body(f"use r rank 0 patience {patience} {{ stop ; }} else {{ mark a ; stop ; }}",
                         f"resource r plan 0 for {units} , 1 for 9 ;")
            self.assertEqual(self.assert_leaps(model, 20), ticks)

    def test_a_limit_at_the_end_of_patience(self):
        model = body("use r rank 0 patience 4 { } else { mark a ; stop ; }", "resource r plan 0 for 9 ;",
                     "process q at 0 { use r rank 0 patience 6 { } else { mark b ; stop ; } } cycle { }")
        run = calendar(model, ())
        run.leap(1)
        self.assertIsNone(run.leap(4))
        self.assertEqual((run.clock, run.state[2][0][:2]), (4, ("asking", 0)))
        self.assertEqual(lines(run.leap(9)[1]), "p leave r, p mark a, p stop")
        self.assertIsNone(run.leap(6))
        self.assertEqual(lines(run.leap(9)[1]), "q leave r, q mark b, q stop")
        self.assertEqual(run.clock, 7)

    def test_plans_of_resources(self):
        model = body("use r rank 0 { hold 1 ; }", "resource r plan 0 for 9 , 0 for 7 , 2 for 1 ;",
                     "process q at 0 { use r rank 0 { hold 1 ; } use r rank 0 { } stop ; } cycle { }")
        self.assertEqual(self.assert_leaps(model, 60), [0, 16, 17, 26, 33, 35, 44, 53])

    def test_a_plan_in_which_units_are_taken_away(self):
        model = body("use r rank 0 { hold 9 ; }", "resource r plan 2 for 1 , 1 for 5 , 2 for 2 ;",
                     "process q at 1 { use r rank 0 { } stop ; } cycle { }")
        self.assertEqual(self.assert_leaps(model, 20), [0, 1, 6, 9, 18])

    def test_a_resource_that_never_has_a_unit(self):
        model = let("""model 2 streams { resource r plan 0 for 9 , 0 for 3 ;
            process p at 0 { use r rank 0 { } } cycle { } }""")
        self.assertEqual(self.assert_leaps(model, 50, ()), [0])
        model = let("""model 2 streams { resource r plan 1 for 9 , 0 for 3 ;
            process p at 0 { use r rank 0 { use r rank 0 { } } } cycle { } }""")
        self.assertEqual(self.assert_leaps(model, 50, ()), [0])

    def test_belts(self):
        model = body("load b ; hold 1 ; load b ; hold 9 ; load b ;", "belt b length 7 ;",
                     "process q at 0 { } cycle { unload b ; hold 1 ; }")
        self.assertEqual(self.assert_leaps(model, 40), [0, 1, 7, 8, 9, 10, 17, 18, 19, 28, 37])

    def test_things_that_stand_at_the_end_of_a_belt(self):
        model = body("load b ; load b ; hold 9 ;", "belt b length 2 room 2 ;",
                     "process q at 8 { unload b ; hold 4 ; unload b ; unload b ; } cycle { }")
        self.assertEqual(self.assert_leaps(model, 30), [0, 8, 9, 12, 18, 27])

    def test_blocked_for_ever(self):
        model = body("take c 1 ;", "store c 0 of 3 ;", "process q at 3 { put c 3 ; } cycle { put c 1 ; hold 1 ; }")
        self.assertEqual(self.assert_leaps(model, 40), [0, 3, 4, 12, 21, 30, 39])
        model = body("take c 1 ;", "store c 0 of 3 ; belt b length 2 room 1 ;",
                     "process q at 3 { load b ; load b ; } cycle { } process w at 2 { unload b ; unload b ; unload b ; } cycle { }")
        self.assertEqual(self.assert_leaps(model, 20), [0, 2, 3, 5, 7])

    def test_behind_the_end(self):
        self.assertEqual(self.assert_leaps(body("hold 3 ; end ;", "belt b length 9 ;",
                                                "process q at 0 { load b ; } cycle { hold 1 ; }"), 30), [0, 1, 2, 3])

    def test_all_done(self):
        model = let("model 2 streams { resource r plan 1 for 3 , 0 for 2 ; process p at 2 { } cycle { } }")
        self.assertEqual(self.assert_leaps(model, 30, ()), [2])
        self.assertEqual(self.assert_leaps(("model", 2, (), (), ()), 7, ()), [])

    def test_interrupts(self):
        model = body("guard { hold 9 ; } handle { mark h ; }", "", "process q at 4 { interrupt p ; stop ; } cycle { }")
        self.assertEqual(self.assert_leaps(model, 30), [0, 4, 13, 22])


class Limits(unittest.TestCase):
    MODEL = body("hold 5 ; mark a ;")

    def test_below_at_and_above_the_clock(self):
        run = calendar(self.MODEL, ())
        self.assertEqual(run.leap(1)[0], 0)
        self.assertEqual(run.leap(6)[0], 5)
        before = run.snapshot
        for limit in (0, 1, 5, 6):
            self.assertIsNone(run.leap(limit))
            self.assertEqual(run.snapshot, before)
        self.assertIsNone(run.leap(7))
        self.assertEqual(run.clock, 7)
        self.assertEqual(run.state[2], (("held", 7, 3, ()),))

    def test_a_busy_tick_at_the_limit_is_not_done(self):
        run = calendar(self.MODEL, ())
        run.leap(1)
        self.assertIsNone(run.leap(5))
        self.assertEqual((run.clock, run.state[2]), (5, (("held", 0, 1, ()),)))
        self.assertIsNone(run.leap(5))
        self.assertEqual(run.leap(6)[0], 5)

    def test_0_and_1000(self):
        run = calendar(self.MODEL, ())
        before = run.snapshot
        self.assertIsNone(run.leap(0))
        self.assertEqual(run.snapshot, before)
        done = calendar(let("model 2 streams { resource r plan 1 for 7 ; process p at 0 { } cycle { } }"))
        self.assertEqual(done.leap(1000)[0], 0)
        self.assertIsNone(done.leap(1000))
        self.assertEqual(done.snapshot, (1000, (), (0, (1000 % 7,), (("done", 0, -1, ()),), ((),), (), (), ())))
        self.assertIsNone(done.leap(1000))
        self.assertEqual(done.clock, 1000)

    def test_the_state_does_not_change_behind_the_end(self):
        run = calendar(body("end ;", "resource r plan 1 for 7 ;"), ())
        self.assertEqual(lines(run.leap(1000)[1]), "p wake, p end")
        state = run.state
        self.assertIsNone(run.leap(1000))
        self.assertEqual(run.snapshot, (1000, (0,), state))


class DryTapes(unittest.TestCase):
    def test_the_run_is_as_it_was_ahead_of_the_leap(self):
        model = body("hold 5 ; put c 1 ; draw s { at 0 1 { } }", "store c 0 of 9 ;")
        run = calendar(model, ())
        run.leap(10)
        before = run.snapshot
        for limit in (6, 10, 1000):
            with self.assertRaises(Dry) as caught:
                run.leap(limit)
            self.assertEqual(caught.exception.name, "s")
            self.assertEqual(run.snapshot, before)
        self.assertEqual(before[0], 1)
        # Up to the tick with the digit there is nothing to do.
        self.assertIsNone(run.leap(5))
        self.assertEqual(run.clock, 5)
        with self.assertRaises(Dry):
            run.leap(6)
        self.assertEqual(run.clock, 5)


class BetweenLeaps(unittest.TestCase):
    def setUp(self):
        self.model = let("""model 2 streams s { resource r plan 1 for 3 , 0 for 4 ; belt b length 5 ;
            process p at 0 { } cycle { use r rank 0 { hold 1 ; } load b ; hold 6 ; }
            process q at 2 { } cycle { unload b ; draw s { at 0 { mark a ; } at 1 { hold 3 ; } } hold 1 ; } }""")
        self.tapes = ((0, 1, 0, 1, 1, 0, 1, 0, 0, 1),)

    def both(self):
        run = calendar(self.model, *self.tapes)
        return run, FlatRun(self.model, code_of(self.model), self.tapes)

    def test_it_is_a_flat_run(self):
        run, _ = self.both()
        self.assertIsInstance(run, FlatRun)

    def test_ticks_between_leaps(self):
        run, other = self.both()
        while run.clock < 40:
            found = run.leap(40)
            tick = other.clock
            while found is not None and tick < found[0]:
                self.assertEqual(other.tick(), ())
                tick += 1
            if found is not None:
                self.assertEqual(other.tick(), found[1])
                self.assertEqual(run.snapshot, other.snapshot)
                self.assertEqual(run.tick(), other.tick())
                self.assertEqual(run.snapshot, other.snapshot)
                self.assertEqual(run.frame(), other.frame())

    def test_tried_and_played_between_leaps(self):
        run, other = self.both()
        run.leap(40)
        run.leap(40)
        before = run.snapshot
        other.resume(before)
        self.assertEqual(run.tried(9), other.tried(9))
        self.assertEqual(run.snapshot, before)
        self.assertEqual(list(run.played(4)), list(other.played(4)))
        self.assertEqual(run.snapshot, other.snapshot)
        with run.trial() as tried:
            self.assertIs(tried, run)
            tried.leap(40)
            self.assertNotEqual(run.snapshot, other.snapshot)
        self.assertEqual(run.snapshot, other.snapshot)

    def test_snapshots_between_leaps(self):
        run, other = self.both()
        for _ in range(8):
            other.tick()
        self.assertEqual(run.resume(other.snapshot), 8)
        self.assertEqual((run.clock, run.reads, run.state), other.snapshot)
        found = run.leap(40)
        twin = calendar(self.model, *self.tapes)
        twin.snapshot = other.snapshot
        self.assertEqual(twin.leap(40), found)
        self.assertEqual(twin.snapshot, run.snapshot)

    def test_reads_beyond_the_end_of_a_tape(self):
        run, other = self.both()
        for _ in range(20):
            other.tick()
        short = calendar(self.model, (0,))
        short.resume(other.snapshot)
        self.assertEqual(short.reads, other.reads)
        with self.assertRaises(Dry):
            while short.leap(1000) is not None:
                self.assertEqual(short.reads, other.reads)

    def test_the_example_model(self):
        run = calendar(EXAMPLE, (0, 1))
        self.assertEqual(run.leap(9), (0, PlainRun(EXAMPLE, ((0,),)).tick()))
        self.assertEqual(lines(run.leap(9)[1]), "p wake, p draw s 1, p hold 1")
        with self.assertRaises(Dry):
            run.leap(9)
        self.assertEqual(run.clock, 2)


if __name__ == "__main__":
    unittest.main()
