"""Point [35]: runs that are kept while the model and the tapes change."""

import random
import unittest

from helpers import EXAMPLE, let
from random_models import random_change, random_model, random_tapes

from meantrace.errors import BadUse, Dry
from meantrace.histories import history
from meantrace.keeping import KeptRun
from meantrace.touches import first_touch

TEXT = """model 2 streams s {{ store c {} of 9 ;
process p at 0 {{ }} cycle {{ hold 2 ; draw s {{ at 0 {{ mark a ; }} at 1 {{ mark b ; }} }} hold 1 ; }}
process q at 0 {{ hold {} ; mark {} ; hold 1 ; put c 1 ; mark {} ; }} cycle {{ hold 1 ; }} }}"""
TAPES = ((0, 1, 0, 1, 1, 0, 0, 1, 0, 1) * 7,)


def make(start=0, hold=5, first="x", second="y"):
    return let(TEXT.format(start, hold, first, second))


class Traces(unittest.TestCase):
    def see(self, run):
        return (run.known, run.work)

    def test_forth_and_back(self):
        model = make()
        for every in range(1, 10):
            run = KeptRun(model, TAPES, every)
            self.assertEqual(self.see(run), (0, 0))
            known = 0
            for n in (3, 0, 7, 7, 2, 30, 12, 31, 0):
                self.assertEqual(run.trace_to(n), history(model, TAPES, ticks=n)[1])
                known = max(known, n)
                self.assertEqual(self.see(run), (known, known))

    def test_0_and_200(self):
        run = KeptRun(make(), TAPES, 9)
        self.assertEqual((run.trace_to(0), self.see(run)), ((), (0, 0)))
        self.assertEqual(run.trace_to(200), history(make(), TAPES, ticks=200)[1])
        self.assertEqual(self.see(run), (200, 200))

    def test_dry(self):
        run = KeptRun(EXAMPLE, ((0, 1, 0, 1, 1),), 2)
        run.trace_to(3)
        for n in (6, 7, 200):
            with self.assertRaises(Dry) as caught:
                run.trace_to(n)
            self.assertEqual((caught.exception.name, self.see(run)), ("s", (3, 3)))
        self.assertEqual(run.trace_to(5), history(EXAMPLE, ((0, 1, 0, 1, 1),), ticks=5)[1])
        self.assertEqual(self.see(run), (5, 5))
        # What was kept is as it was: only snapshots that were come to can be gone back to.
        self.assertEqual(run.redraw(((0, 1, 0, 1, 0, 0, 0),)), 4)
        self.assertEqual(run.trace_to(7), history(EXAMPLE, ((0, 1, 0, 1, 0, 0, 0),), ticks=7)[1])
        self.assertEqual(self.see(run), (7, 8))

    def test_dry_behind_snapshots_that_are_not_kept_then(self):
        run = KeptRun(EXAMPLE, ((0, 1, 0),), 1)
        with self.assertRaises(Dry):
            run.trace_to(9)
        self.assertEqual(self.see(run), (0, 0))
        self.assertEqual(run.redraw(((1, 1, 1, 1),)), 0)
        self.assertEqual(run.trace_to(4), history(EXAMPLE, ((1, 1, 1, 1),), ticks=4)[1])


class Changes(unittest.TestCase):
    def see(self, run):
        return (run.known, run.work)

    def test_what_is_known_behind_a_touch(self):
        # q comes to its first mark in tick 5, to its second one in tick 6.
        for every in range(1, 10):
            run = KeptRun(make(), TAPES, every)
            run.trace_to(20)
            known = every * (5 // every)
            self.assertEqual(run.change(make(first="z")), known)
            self.assertEqual(self.see(run), (known, 20))
            self.assertEqual(run.trace_to(20), history(make(first="z"), TAPES, ticks=20)[1])
            self.assertEqual(self.see(run), (20, 40 - known))
            again = every * (6 // every)
            self.assertEqual(run.change(make(first="z", second="v")), again)
            self.assertEqual(run.trace_to(9), history(make(first="z", second="v"), TAPES, ticks=9)[1])
            self.assertEqual(self.see(run), (9, 49 - known - again))

    def test_without_a_touch_in_the_known_ticks(self):
        run = KeptRun(make(), TAPES, 4)
        run.trace_to(5)
        self.assertEqual(run.change(make(first="z")), 5)
        self.assertEqual(self.see(run), (5, 5))
        self.assertEqual(run.trace_to(12), history(make(first="z"), TAPES, ticks=12)[1])
        self.assertEqual(self.see(run), (12, 12))
        self.assertEqual(run.change(make(first="z")), 12)
        self.assertEqual(self.see(run), (12, 12))

    def test_a_touch_in_tick_0(self):
        run = KeptRun(make(), TAPES, 3)
        run.trace_to(8)
        self.assertEqual(run.change(make(start=4)), 0)
        self.assertEqual(self.see(run), (0, 8))
        self.assertEqual(run.trace_to(8), history(make(start=4), TAPES, ticks=8)[1])
        self.assertEqual(self.see(run), (8, 16))

    def test_nothing_is_known_and_the_start_differs(self):
        run = KeptRun(make(), TAPES, 3)
        self.assertEqual(run.change(make(start=4)), 0)
        self.assertEqual(run.trace_to(8), history(make(start=4), TAPES, ticks=8)[1])
        self.assertEqual(self.see(run), (8, 8))

    def test_a_touch_below_every_begins_at_the_start_of_the_new_model(self):
        elder = let("model 2 streams { belt b length 3 ; process p at 1 { load b ; hold 2 ; } cycle { unload b ; hold 1 ; } }")
        model = let("model 2 streams { belt b length 1 ; process p at 1 { load b ; hold 2 ; } cycle { unload b ; hold 1 ; } }")
        run = KeptRun(elder, (), 5)
        run.trace_to(9)
        self.assertEqual(run.change(model), 0)
        self.assertEqual(run.trace_to(9), history(model, (), ticks=9)[1])

    def test_bad_use(self):
        run = KeptRun(make(), TAPES, 3)
        run.trace_to(8)
        trace = run.trace_to(8)
        others = (EXAMPLE, ("model", 3, *make()[2:]), (*make()[:2], ("t",), *make()[3:]), (*make()[:4], make()[4][:1]),
                  (*make()[:4], make()[4][::-1]), (*make()[:3], (("counter", "c", 0, 9),), make()[4]))
        for other in others:
            with self.assertRaises(BadUse) as caught:
                run.change(other)
            self.assertEqual((caught.exception.name, self.see(run)), ("model", (8, 8)))
        self.assertEqual(run.trace_to(8), trace)
        self.assertEqual(run.trace_to(15), history(make(), TAPES, ticks=15)[1])
        self.assertEqual(self.see(run), (15, 15))


class Redraws(unittest.TestCase):
    def see(self, run):
        return (run.known, run.work)

    def test_a_digit_that_was_read(self):
        # The digit number n is read in tick 2 + 3 * n.
        for every in range(1, 10):
            for number in range(5):
                run = KeptRun(make(), TAPES, every)
                run.trace_to(16)
                tape = list(TAPES[0])
                tape[number] = 1 - tape[number]
                known = every * ((2 + 3 * number) // every)
                self.assertEqual(run.redraw((tuple(tape),)), known)
                self.assertEqual(run.trace_to(16), history(make(), (tuple(tape),), ticks=16)[1])
                self.assertEqual(self.see(run), (16, 32 - known))

    def test_a_digit_that_was_not_read_yet(self):
        run = KeptRun(make(), TAPES, 4)
        run.trace_to(14)
        tape = TAPES[0][:5] + (1, 1, 1, 1, 1)
        self.assertEqual(run.redraw((tape,)), 14)
        self.assertEqual(self.see(run), (14, 14))
        self.assertEqual(run.trace_to(20), history(make(), (tape,), ticks=20)[1])
        self.assertEqual(self.see(run), (20, 20))

    def test_shorter_tapes(self):
        run = KeptRun(make(), TAPES, 4)
        run.trace_to(16)
        # Five digits are read in 16 ticks.
        self.assertEqual(run.redraw((TAPES[0][:5],)), 16)
        self.assertEqual(run.redraw((TAPES[0][:4],)), 12)
        self.assertEqual(run.trace_to(14), history(make(), TAPES, ticks=14)[1])
        with self.assertRaises(Dry):
            run.trace_to(15)
        self.assertEqual(self.see(run), (14, 18))
        self.assertEqual(run.redraw(((),)), 0)
        with self.assertRaises(Dry):
            run.trace_to(3)
        self.assertEqual(run.trace_to(2), history(make(), TAPES, ticks=2)[1])
        self.assertEqual(self.see(run), (2, 20))

    def test_the_first_tick_of_several_streams(self):
        model = let("""model 2 streams s t { process p at 0 { } cycle { draw t { at 0 1 { } } hold 3 ; }
            process q at 1 { } cycle { draw s { at 0 1 { } } hold 2 ; } }""")
        # t is read at 0, 3, 6, 9 and s at 1, 3, 5, 7, 9.
        run = KeptRun(model, ((0,) * 9, (1,) * 9), 1)
        run.trace_to(10)
        self.assertEqual(run.redraw(((0,) * 9, (1, 1, 1, 0, 1))), 9)
        run.trace_to(10)
        self.assertEqual(run.redraw(((0, 0, 1, 0, 0), (1, 1, 1, 1, 1))), 5)
        run.trace_to(10)
        self.assertEqual(run.redraw(((0, 0, 1, 0, 0), (0, 1, 1, 1, 1))), 0)
        self.assertEqual(run.work, 16)

    def test_behind_a_change_the_new_model_reads_the_new_tapes(self):
        run = KeptRun(make(), TAPES, 2)
        run.trace_to(11)
        self.assertEqual(run.change(make(second="v")), 6)
        self.assertEqual(run.redraw(((1, 1, 1, 1, 1, 1),)), 2)
        self.assertEqual(run.trace_to(12), history(make(second="v"), ((1, 1, 1, 1, 1, 1),), ticks=12)[1])
        self.assertEqual(self.see(run), (12, 21))


class RandomRuns(unittest.TestCase):
    def test_many_changes_in_a_row(self):
        kept = 0
        for seed in range(150):
            dice = random.Random(seed)
            model, every = random_model(seed), seed % 9 + 1
            tapes = random_tapes(model, seed, 300)
            run = KeptRun(model, tapes, every)
            known = work = 0
            for _ in range(8):
                kind = dice.random()
                if kind < 0.4:
                    n = dice.randint(0, 30)
                    self.assertEqual(run.trace_to(n), history(model, tapes, ticks=n)[1])
                    work += max(0, n - known)
                    known = max(known, n)
                elif kind < 0.7:
                    changed = random_change(model, dice.random())
                    touch = first_touch(model, changed, tapes, known)
                    model = changed
                    known = known if touch is None else every * (touch // every)
                    self.assertEqual(run.change(model), known)
                    kept += known > 0
                else:
                    other = random_tapes(model, dice.random(), 300)
                    other = tuple(tape[:6] + rest[6:] for tape, rest in zip(tapes, other))
                    known = self.known_behind(model, tapes, other, known, every)
                    tapes = other
                    self.assertEqual(run.redraw(tapes), known)
                    kept += known > 0
                self.assertEqual((run.known, run.work), (known, work))
            self.assertEqual(run.trace_to(35), history(model, tapes, ticks=35)[1])
        self.assertGreater(kept, 100)

    def known_behind(self, model, tapes, other, known, every):
        """The traces up to a tick are the same exactly as long as the digits that are read are."""
        for n in range(known + 1):
            if history(model, tapes, ticks=n)[1] != history(model, other, ticks=n)[1]:
                return every * ((n - 1) // every)
        return known


if __name__ == "__main__":
    unittest.main()
