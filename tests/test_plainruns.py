"""Points [14] and [17]: ticks, tapes that end, snapshots, trials and forks."""

import unittest

from helpers import EXAMPLE, EXAMPLE_TEXT, lines, one

from meantrace.errors import BadNumber, BadText, Dry, Unknown
from meantrace.plainruns import PlainRun
from meantrace.states import start_state

TWO = """
model 2 streams s t { store c 0 of 9 ;
process p at 0 { } cycle { put c 1 ; draw s { at 0 { mark a ; } at 1 { } } hold 1 ; }
process q at 1 { } cycle { draw t { at 0 { } at 1 { mark b ; } } hold 2 ; }
}
"""


class Ticks(unittest.TestCase):
    def test_the_example(self):
        run = PlainRun(EXAMPLE, ((0, 1),))
        self.assertEqual(run.tick(), (
            (0, "p", "wake", "", 0), (0, "p", "draw", "s", 0), (0, "p", "mark", "a", 0),
            (0, "p", "hold", "", 1),
        ))
        self.assertEqual(run.tick(), (
            (1, "p", "wake", "", 0), (1, "p", "draw", "s", 1), (1, "p", "hold", "", 1),
        ))

    def test_the_beginning(self):
        run = PlainRun(EXAMPLE, ((0, 1),))
        self.assertEqual((run.clock, run.reads), (0, (0,)))
        self.assertEqual(run.state, start_state(EXAMPLE))
        self.assertEqual(run.snapshot, (0, (0,), start_state(EXAMPLE)))

    def test_clock_reads_and_snapshot(self):
        run = PlainRun.of(TWO, ((0, 1, 0, 1), (1, 0)))
        found = []
        for _ in range(4):
            run.tick()
            found.append((run.clock, run.reads))
            self.assertEqual(run.snapshot, (run.clock, run.reads, run.state))
        self.assertEqual(found, [(1, (1, 0)), (2, (2, 1)), (3, (3, 1)), (4, (4, 2))])

    def test_no_process(self):
        run = PlainRun(("model", 2, (), (), ()), ())
        self.assertEqual(run.tick(), ())
        self.assertEqual(run.snapshot, (1, (), (0, (), (), (), (), (), ())))

    def test_played(self):
        run = PlainRun.of(TWO, ((0, 1, 0, 1), (1, 0)))
        other = PlainRun.of(TWO, ((0, 1, 0, 1), (1, 0)))
        ticks = run.played(4)
        self.assertEqual(run.clock, 0)
        for many in range(1, 5):
            self.assertEqual(next(ticks), other.tick())
            self.assertEqual(run.clock, many)
        self.assertEqual(list(ticks), [])
        self.assertEqual(list(run.played(0)), [])
        self.assertEqual(run.clock, 4)

    def test_played_up_to_a_tape_that_ends(self):
        run = PlainRun(EXAMPLE, ((0, 1),))
        found = []
        with self.assertRaises(Dry):
            for events in run.played(5):
                found.append(events)
        self.assertEqual(len(found), 2)
        self.assertEqual((run.clock, run.reads), (2, (2,)))

    def test_the_same_arguments_give_the_same_run(self):
        tapes = ((0, 1, 0, 1), (1, 0))
        first, second = PlainRun.of(TWO, tapes), PlainRun.of(TWO, tapes)
        self.assertEqual(list(first.played(4)), list(second.played(4)))
        self.assertEqual(first.snapshot, second.snapshot)
        self.assertEqual(tapes, ((0, 1, 0, 1), (1, 0)))


class Texts(unittest.TestCase):
    def test_of(self):
        run = PlainRun.of(EXAMPLE_TEXT, ((1,),))
        self.assertIs(type(run), PlainRun)
        self.assertEqual(lines(run.tick()), "p wake, p draw s 1, p hold 1")

    def test_it_is_read_and_then_checked(self):
        with self.assertRaises(BadText) as caught:
            PlainRun.of("model 7 streams { } }", ())
        self.assertEqual(caught.exception.at, 5)
        with self.assertRaises(BadNumber) as caught:
            PlainRun.of("model 7 streams { }", ())
        self.assertEqual(caught.exception.value, 7)
        with self.assertRaises(Unknown):
            PlainRun.of(one("load b ;"), ())


class DryTapes(unittest.TestCase):
    def test_the_example(self):
        run = PlainRun(EXAMPLE, ((),))
        with self.assertRaises(Dry) as caught:
            run.tick()
        self.assertEqual(caught.exception.name, "s")

    def test_the_run_is_as_it_was_ahead_of_the_tick(self):
        run = PlainRun.of(TWO, ((0, 1, 0), ()))
        run.tick()
        before = run.snapshot
        for _ in range(3):
            # p moves, puts and reads ahead of q in this tick.
            with self.assertRaises(Dry) as caught:
                run.tick()
            self.assertEqual(caught.exception.name, "t")
            self.assertEqual(run.snapshot, before)
        self.assertEqual(before[0:2], (1, (1, 0)))

    def test_the_first_stream_that_is_missing(self):
        run = PlainRun.of(TWO, ((0,), ()))
        run.tick()
        with self.assertRaises(Dry) as caught:
            run.tick()
        self.assertEqual(caught.exception.name, "s")

    def test_a_draw_that_does_not_matter_reads_too(self):
        run = PlainRun.of("""model 2 streams s { process p at 0 { draw s { at 0 1 { } } } cycle { } }""", ((),))
        with self.assertRaises(Dry):
            run.tick()


class Snapshots(unittest.TestCase):
    def test_resume(self):
        tapes = ((0, 1, 0, 1, 1), (1, 0, 1))
        run = PlainRun.of(TWO, tapes)
        run.tick()
        snapshot = run.snapshot
        rest = list(run.played(4))
        self.assertEqual(run.resume(snapshot), 1)
        self.assertEqual(run.snapshot, snapshot)
        self.assertEqual(list(run.played(4)), rest)

    def test_snapshot_is_set(self):
        run = PlainRun.of(TWO, ((0, 1, 0, 1, 1), (1, 0, 1)))
        first = run.tick()
        run.tick()
        run.snapshot = (0, (0, 0), start_state(run.model))
        self.assertEqual((run.clock, run.reads, run.state), (0, (0, 0), start_state(run.model)))
        self.assertEqual(run.tick(), first)

    def test_another_run_goes_on_with_its_own_tapes(self):
        run = PlainRun(EXAMPLE, ((0, 0, 0),))
        run.tick()
        other = PlainRun(EXAMPLE, ((1, 1, 1),))
        self.assertEqual(other.resume(run.snapshot), 1)
        self.assertEqual(other.tick(), (
            (1, "p", "wake", "", 0), (1, "p", "draw", "s", 1), (1, "p", "hold", "", 1),
        ))
        self.assertEqual(run.clock, 1)

    def test_reads_beyond_the_end_of_a_tape(self):
        run = PlainRun(EXAMPLE, ((0, 0, 0),))
        list(run.played(3))
        other = PlainRun(EXAMPLE, ((1,),))
        other.snapshot = run.snapshot
        self.assertEqual(other.reads, (3,))
        before = other.snapshot
        with self.assertRaises(Dry) as caught:
            other.tick()
        self.assertEqual(caught.exception.name, "s")
        self.assertEqual(other.snapshot, before)
        self.assertEqual(other.reads, (3,))

    def test_reads_beyond_the_end_do_not_matter_where_nothing_is_read(self):
        run = PlainRun.of("""model 2 streams s { process p at 0 { draw s { at 0 1 { } } draw s { at 0 1 { } } }
            cycle { mark a ; hold 1 ; } }""", ((0, 0),))
        run.tick()
        other = PlainRun(run.model, ((),))
        other.resume(run.snapshot)
        self.assertEqual(lines(other.tick()), "p wake, p mark a, p hold 1")
        self.assertEqual(other.reads, (2,))


class Trials(unittest.TestCase):
    def test_a_trial_puts_the_run_back(self):
        run = PlainRun(EXAMPLE, ((0, 1, 0),))
        run.tick()
        before = run.snapshot
        with run.trial() as tried:
            self.assertIs(tried, run)
            tried.tick()
            self.assertEqual(run.clock, 2)
        self.assertEqual(run.snapshot, before)

    def test_also_if_an_error_is_raised(self):
        run = PlainRun(EXAMPLE, ((0, 1),))
        before = run.snapshot
        with self.assertRaises(Dry):
            with run.trial():
                for _ in range(3):
                    run.tick()
        self.assertEqual(run.snapshot, before)
        with self.assertRaises(KeyError):
            with run.trial():
                run.tick()
                raise KeyError("of another kind")
        self.assertEqual(run.snapshot, before)

    def test_a_trial_begins_when_the_block_is_entered(self):
        run = PlainRun(EXAMPLE, ((0, 1, 0),))
        trial = run.trial()
        run.tick()
        before = run.snapshot
        with trial:
            run.tick()
        self.assertEqual(run.snapshot, before)
        run.tick()
        later = run.snapshot
        with trial:
            run.tick()
        self.assertEqual(run.snapshot, later)

    def test_trials_inside_of_trials(self):
        run = PlainRun(EXAMPLE, ((0, 1, 0, 1),))
        with run.trial():
            run.tick()
            inner = run.snapshot
            with run.trial():
                run.resume((7, (0,), start_state(EXAMPLE)))
            self.assertEqual(run.snapshot, inner)
        self.assertEqual(run.clock, 0)

    def test_tried(self):
        run = PlainRun(EXAMPLE, ((0, 1, 0),))
        run.tick()
        before = run.snapshot
        told = run.tried(2)
        self.assertEqual(run.snapshot, before)
        self.assertEqual(told, run.tick() + run.tick())
        self.assertEqual(run.tried(0), ())
        before = run.snapshot
        with self.assertRaises(Dry):
            run.tried(1)
        self.assertEqual(run.snapshot, before)

    def test_tried_that_ends_dry_in_a_later_tick(self):
        run = PlainRun(EXAMPLE, ((0, 1, 0),))
        before = run.snapshot
        with self.assertRaises(Dry):
            run.tried(4)
        self.assertEqual(run.snapshot, before)


class Forks(unittest.TestCase):
    def test_a_fork_reads_its_own_tapes_from_their_beginning(self):
        run = PlainRun.of(TWO, ((0, 1, 0, 1), (1, 0)))
        run.tick()
        run.tick()
        twin = run.fork(((1, 1), (0,)))
        self.assertIs(type(twin), PlainRun)
        self.assertEqual(twin.snapshot, (2, (0, 0), run.state))
        self.assertEqual(lines(twin.tick()), "p wake, p put c 1, p draw s 1, p hold 1")
        self.assertEqual(twin.reads, (1, 0))

    def test_neither_run_changes_the_other_one(self):
        run = PlainRun.of(TWO, ((0, 1, 0, 1), (1, 0)))
        run.tick()
        before = run.snapshot
        twin = run.fork(((), ()))
        with self.assertRaises(Dry):
            twin.tick()
        self.assertEqual(run.snapshot, before)
        there = twin.snapshot
        run.tick()
        self.assertEqual(twin.snapshot, there)


class Prefixes(unittest.TestCase):
    def test_what_is_changed_later_does_not_matter_before(self):
        """Point [34]: up to the first touch both models do the same."""
        text = """model 2 streams s {{ resource r plan 1 for 2 ; store c 0 of 5 ;
            process p at 0 {{ hold 2 ; use r rank 1 {{ put c 1 ; }} hold 2 ; {} }} cycle {{ hold 1 ; {} }}
            process q at 1 {{ draw s {{ at 0 {{ mark a ; }} at 1 {{ {} }} }} }} cycle {{ mark b ; hold 2 ; }} }}"""
        elder = PlainRun.of(text.format("mark x ;", "", ""), ((0, 1, 0),))
        changed = PlainRun.of(text.format("put c 2 ; mark y ;", "mark z ;", "stop ;"), ((0, 1, 0),))
        # p comes to the changed statement in tick 4.
        for _ in range(4):
            self.assertEqual(elder.snapshot, changed.snapshot)
            self.assertEqual(elder.tick(), changed.tick())
        self.assertEqual(elder.snapshot, changed.snapshot)
        self.assertNotEqual(elder.tick(), changed.tick())


if __name__ == "__main__":
    unittest.main()
