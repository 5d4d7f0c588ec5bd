"""Point [20]: flat states, and flat runs against plain runs."""

import unittest

from helpers import EXAMPLE, let, lines

from meantrace.calendars import CalendarRun
from meantrace.codes import code_of
from meantrace.errors import Dry
from meantrace.flatruns import FlatRun
from meantrace.gauges import gauge_values
from meantrace.plainruns import PlainRun
from meantrace.tighten import tightened

NESTED = """
model 2 streams s {
resource r plan 2 for 9 ; resource t plan 1 for 9 ; store c 1 of 5 ; belt b length 2 ; counter k 0 of 3 ;
process p at 1 { mark a ; }
cycle { use r rank 1 { loop 3 { guard { use t rank 0 { hold 2 ; } } handle { mark h ; } } } hold 1 ; }
process q at 2 { } cycle { interrupt p ; load b ; hold 1 ; draw s { at 0 { add k 1 ; } at 1 { put c 1 ; } } }
process w at 0 { hold 9 ; } cycle { }
}
"""


def flat(model, tapes, tight=False):
    codes = code_of(model)
    if tight:
        codes = tuple(tightened(code) for code in codes)
    return FlatRun(model, codes, tapes)


def play(text, ticks, *tapes):
    """The events of the first ticks of a flat run, a string for each tick."""
    run = flat(let(text), tapes)
    return [lines(run.tick()) for _ in range(ticks)]


def one(body, items="", cycle="hold 9 ;", more=""):
    return let(f"model 2 streams s {{ {items} process p at 0 {{ {body} }} cycle {{ {cycle} }} {more} }}")


class States(unittest.TestCase):
    def test_the_beginning(self):
        run = flat(let(NESTED), ((0, 1, 0, 1),))
        self.assertEqual(run.state, (
            0, (0, 0), (("held", 1, 0, ()), ("held", 2, 0, ()), ("held", 0, 0, ())), ((), ()), (1,), ((),), (0,),
        ))
        self.assertEqual(run.snapshot, (0, (0,), run.state))
        self.assertEqual((run.clock, run.reads), (0, (0,)))

    def test_stacks(self):
        run = flat(let(NESTED), ((0, 1, 0, 1),))
        run.tick()
        self.assertEqual(run.state[2], (("held", 0, 0, ()), ("held", 1, 0, ()), ("held", 8, 1, ())))
        self.assertEqual(lines(run.tick()), "p wake, p mark a, p ask r 1, p get r, p loop 3, p guard, p ask t, "
                                            "p get t, p hold 2")
        # 0 wait, 1 mark, 2 use r, 3 loop, 4 guard, 5 use t, 6 hold, 7 give, 8 unguard, 9 jump, 10 mark, 11 again,
        # 12 give, 13 hold, 14 jump.
        stack = (("unit", "r"), ("turns", 2), ("guard", 10), ("unit", "t"))
        self.assertEqual(run.state[2][0], ("held", 1, 6, stack))
        self.assertEqual(run.state[1], (2, 2))
        self.assertEqual(lines(run.tick()), "q wake, q interrupt p 1, p broken, p give t, p mark h, p guard, p ask t, "
                                            "p get t, p hold 2, q load b, q hold 1")
        stack = (("unit", "r"), ("turns", 1), ("guard", 10), ("unit", "t"))
        self.assertEqual(run.state[2][0], ("held", 1, 6, stack))

    def test_a_process_that_asks_and_one_that_is_broken(self):
        model = one("guard { use r rank 3 patience 2 { } else { } } handle { mark a ; }", "resource r plan 0 for 9 ;",
                    more="process q at 0 { } cycle { interrupt p ; end ; }")
        run = flat(model, ((),))
        self.assertEqual(lines(run.tick()), "p wake, p guard, p ask r 3, q wake, q interrupt p 1, p broken, p mark a, "
                                            "p hold 9, q end")
        self.assertEqual(run.state[0], 1)
        run = flat(one("guard { use r rank 3 patience 2 { } else { } } handle { mark a ; }",
                       "resource r plan 0 for 9 ;"), ((),))
        run.tick()
        self.assertEqual(run.state, (0, (1,), (("asking", 1, 2, (("guard", 6),)),), (((3, 0),),), (), (), ()))
        run = flat(one("use r rank 3 { }", "resource r plan 0 for 9 ;"), ((),))
        run.tick()
        self.assertEqual(run.state[2], (("asking", -1, 1, ()),))

    def test_a_broken_process_stays_at_its_address_where_the_run_ends(self):
        model = let("""model 2 streams { process q at 1 { interrupt p ; end ; } cycle { }
            process p at 0 { guard { hold 5 ; } handle { } } cycle { } }""")
        run = flat(model, ())
        run.tick()
        run.tick()
        self.assertEqual(run.state, (1, (), (("ready", 0, 2, ()), ("broken", 0, 2, (("guard", 4),))), (), (), (), ()))

    def test_done(self):
        for body, cycle in (("mark a ;", ""), ("stop ;", "hold 1 ;"), ("loop 2 { loop 3 { } }", ""), ("", "")):
            run = flat(one(body, cycle=cycle), ((),))
            run.tick()
            self.assertEqual(run.state[2], (("done", 0, -1, ()),))

    def test_a_stop_inside_of_everything(self):
        body = "use r rank 0 { loop 3 { guard { use t rank 0 { use r rank 0 { stop ; } } } handle { } } }"
        run = flat(one(body, "resource r plan 2 for 9 ; resource t plan 1 for 9 ;"), ((),))
        self.assertEqual(lines(run.tick()), "p wake, p ask r, p get r, p loop 3, p guard, p ask t, p get t, p ask r, "
                                            "p get r, p stop, p give r, p give t, p give r")
        self.assertEqual(run.state[2], (("done", 0, -1, ()),))
        self.assertEqual(run.frame(), (0, 0, 0, 0))


class Moves(unittest.TestCase):
    def test_what_is_done_at_once_belongs_to_the_move(self):
        # Behind the mark: give, again, jump, and all of it ahead of the next move of any process.
        text = """model 2 streams { resource r plan 1 for 9 ;
            process p at 0 { } cycle { loop 2 { use r rank 0 { mark a ; } } hold 1 ; }
            process q at 0 { } cycle { use r rank 0 { hold 1 ; } hold 1 ; } }"""
        self.assertEqual(play(text, 2), [
            "p wake, p loop 2, p ask r, p get r, p mark a, p give r, p ask r, p get r, p mark a, p give r, p hold 1, "
            "q wake, q ask r, q get r, q hold 1",
            "p wake, p loop 2, p ask r, q wake, q give r, p get r, p mark a, p give r, p ask r, p get r, p mark a, "
            "p give r, p hold 1, q hold 1",
        ])

    def test_draws_with_several_digits(self):
        text = """model 3 streams s { process p at 0 { } cycle { draw s { at 2 0 { mark a ; } at 1 { mark b ; } } hold 1 ; } }"""
        self.assertEqual(play(text, 3, (0, 1, 2)), [
            "p wake, p draw s, p mark a, p hold 1", "p wake, p draw s 1, p mark b, p hold 1",
            "p wake, p draw s 2, p mark a, p hold 1",
        ])

    def test_patience(self):
        text = """model 2 streams { resource r plan 1 for 9 ;
            process p at 0 { use r rank 0 { hold 9 ; } } cycle { }
            process q at 0 { use r rank 0 patience 1 { mark a ; } else { mark b ; } mark c ; } cycle { }
            process w at 0 { use r rank 0 patience 2 { mark a ; } else { } mark c ; } cycle { } }"""
        self.assertEqual(play(text, 3)[1:], ["q leave r, q mark b, q mark c", "w leave r, w mark c"])

    def test_a_process_that_interrupts_itself(self):
        text = """model 2 streams { process p at 0 { guard { loop 2 { interrupt p ; mark a ; } } handle { mark b ; } mark c ; }
            cycle { } }"""
        self.assertEqual(play(text, 1), ["p wake, p guard, p loop 2, p interrupt p 1, p broken, p mark b, p mark c"])

    def test_the_innermost_guard_is_taken(self):
        text = """model 2 streams { process p at 0 { guard { guard { hold 5 ; } handle { hold 1 ; mark i ; } hold 5 ; }
            handle { mark o ; } } cycle { } process q at 1 { } cycle { interrupt p ; hold 1 ; } }"""
        self.assertEqual(play(text, 4), [
            "p wake, p guard, p guard, p hold 5", "q wake, q interrupt p 1, p broken, p hold 1, q hold 1",
            "p wake, p mark i, p hold 5, q wake, q interrupt p 1, p broken, p mark o, q hold 1",
            "q wake, q interrupt p, q hold 1",
        ])

    def test_behind_the_end(self):
        run = flat(one("hold 1 ; end ;", "belt b length 3 ;", more="process q at 0 { load b ; hold 1 ; } cycle { }"), ((),))
        self.assertEqual(lines(run.tick()), "p wake, p hold 1, q wake, q load b, q hold 1")
        self.assertEqual(lines(run.tick()), "p wake, p end")
        state = run.state
        self.assertEqual((run.tick(), run.tick()), ((), ()))
        self.assertEqual((run.clock, run.state), (4, state))

    def test_frames(self):
        model = let(NESTED)
        tapes = ((0, 1, 1, 0, 0, 1, 0, 1, 1, 1),)
        plain, run = PlainRun(model, tapes), flat(model, tapes)
        self.assertEqual(run.frame(), gauge_values(model, plain.state))
        for _ in range(12):
            self.assertEqual(run.tick(), plain.tick())
            self.assertEqual(run.frame(), gauge_values(model, plain.state))
            self.assertEqual((run.clock, run.reads), (plain.clock, plain.reads))


class OtherCodes(unittest.TestCase):
    def test_codes_of_a_model_that_differs_in_bodies(self):
        text = """model 2 streams s {{ resource r plan 1 for 2 , 0 for 1 ; store c 0 of 5 ;
            process p at 1 {{ {} }} cycle {{ {} hold 1 ; }} process q at 0 {{ {} }} cycle {{ hold 1 ; }} }}"""
        model = let(text.format("mark a ;", "use r rank 0 { }", ""))
        other = let(text.format("hold 2 ; mark b ;", "draw s { at 0 { put c 1 ; } at 1 { } }", "use r rank 0 { hold 3 ; }"))
        tapes = ((0, 1, 0, 1, 0, 1, 0, 1, 0, 1),)
        for codes in (code_of(other), tuple(tightened(code) for code in code_of(other)),
                      (code_of(other)[0], tightened(code_of(other)[1]))):
            run, plain = FlatRun(model, codes, tapes), PlainRun(other, tapes)
            for _ in range(8):
                self.assertEqual(run.tick(), plain.tick())
                self.assertEqual(run.frame(), gauge_values(other, plain.state))


class DryTapes(unittest.TestCase):
    def test_the_run_is_as_it_was_ahead_of_the_tick(self):
        for tight in (False, True):
            run = flat(EXAMPLE, ((0, 1),), tight)
            run.tick()
            run.tick()
            before = run.snapshot
            for _ in range(2):
                with self.assertRaises(Dry) as caught:
                    run.tick()
                self.assertEqual(caught.exception.name, "s")
                self.assertEqual(run.snapshot, before)

    def test_a_digit_that_is_missing_behind_other_moves(self):
        run = flat(let("""model 2 streams s t { store c 0 of 9 ;
            process p at 0 { } cycle { put c 1 ; draw s { at 0 1 { } } hold 1 ; }
            process q at 1 { } cycle { draw t { at 0 1 { } } hold 2 ; } }"""), ((0, 0, 0), ()))
        run.tick()
        before = run.snapshot
        with self.assertRaises(Dry) as caught:
            run.tick()
        self.assertEqual((caught.exception.name, run.snapshot), ("t", before))


class Snapshots(unittest.TestCase):
    def test_resume_and_set(self):
        tapes = ((0, 1, 0, 1, 1, 0),)
        run = flat(EXAMPLE, tapes)
        run.tick()
        snapshot = run.snapshot
        rest = [run.tick() for _ in range(3)]
        self.assertEqual(run.resume(snapshot), 1)
        self.assertEqual(run.snapshot, snapshot)
        self.assertEqual([run.tick() for _ in range(3)], rest)
        run.snapshot = snapshot
        self.assertEqual((run.clock, run.reads, run.state), snapshot)
        other = flat(EXAMPLE, ((1, 0, 0, 0),))
        other.resume(snapshot)
        self.assertEqual(lines(other.tick()), "p wake, p draw s, p mark a, p hold 1")

    def test_snapshots_of_calendar_runs(self):
        model = let(NESTED)
        tapes = ((0, 1, 0, 1, 1, 0, 1),)
        calendar = CalendarRun(model, code_of(model), tapes)
        run, plain = flat(model, tapes), PlainRun(model, tapes)
        for limit in (1, 3, 5, 6):
            while calendar.leap(limit) is not None:
                pass
            plain.resume((0, (0,), PlainRun(model, tapes).state))
            for _ in range(limit):
                plain.tick()
            self.assertEqual(run.resume(calendar.snapshot), limit)
            self.assertEqual(run.frame(), gauge_values(model, plain.state))
            self.assertEqual([run.tick() for _ in range(4)], [plain.tick() for _ in range(4)])

    def test_reads_beyond_the_end_of_a_tape(self):
        run = flat(EXAMPLE, ((0, 0, 0),))
        list(run.played(3))
        other = flat(EXAMPLE, ((1,),))
        other.resume(run.snapshot)
        self.assertEqual(other.reads, (3,))
        before = other.snapshot
        with self.assertRaises(Dry):
            other.tick()
        self.assertEqual(other.snapshot, before)


class Trials(unittest.TestCase):
    def test_trials(self):
        run = flat(EXAMPLE, ((0, 1, 0),))
        trial = run.trial()
        run.tick()
        before = run.snapshot
        with trial as tried:
            self.assertIs(tried, run)
            run.tick()
        self.assertEqual(run.snapshot, before)
        with self.assertRaises(Dry):
            with run.trial():
                for _ in range(5):
                    run.tick()
        self.assertEqual(run.snapshot, before)

    def test_tried(self):
        run = flat(EXAMPLE, ((0, 1, 0),))
        run.tick()
        before = run.snapshot
        told = run.tried(2)
        self.assertEqual(run.snapshot, before)
        self.assertEqual(told, run.tick() + run.tick())
        self.assertEqual(run.tried(0), ())
        before = run.snapshot
        with self.assertRaises(Dry):
            run.tried(1)
        self.assertEqual(run.snapshot, before)

    def test_played(self):
        run, other = flat(EXAMPLE, ((0, 1, 0),)), flat(EXAMPLE, ((0, 1, 0),))
        ticks = run.played(5)
        self.assertEqual(run.clock, 0)
        for many in range(1, 4):
            self.assertEqual(next(ticks), other.tick())
            self.assertEqual(run.clock, many)
        with self.assertRaises(Dry):
            next(ticks)
        self.assertEqual(run.snapshot, other.snapshot)


if __name__ == "__main__":
    unittest.main()
