"""Models at random: every way of running them has the trace, the frames and the statistics of the plain run."""

import random
import unittest

from random_models import random_houses, random_model, random_queues, random_tapes

from meantrace.ahead import AheadRun
from meantrace.calendars import CalendarRun
from meantrace.codes import code_of
from meantrace.errors import Dry
from meantrace.flatruns import FlatRun
from meantrace.gauges import gauge_values, gauges
from meantrace.guesses import GuessRun
from meantrace.joining import join_events
from meantrace.keeping import KeptRun
from meantrace.plainruns import PlainRun
from meantrace.renewing import records
from meantrace.tallies import gauge_tally
from meantrace.tighten import tightened
from meantrace.traced import traced_tally

TICKS = 25


def models():
    for seed in range(300):
        yield seed, random_model(seed)
    for seed in range(60):
        yield seed, random_queues(seed)
        yield seed, random_houses(seed)[0]


def codes_of(model):
    codes = code_of(model)
    return codes, tuple(tightened(code) for code in codes)


class FlatRuns(unittest.TestCase):
    def test_events_frames_reads_and_dry(self):
        words, dry = {}, 0
        for seed, model in models():
            tapes = random_tapes(model, seed, seed % 30)
            run = PlainRun(model, tapes)
            codes, tight = codes_of(model)
            others = [FlatRun(model, codes, tapes), FlatRun(model, tight, tapes), CalendarRun(model, tight, tapes)]
            for _ in range(TICKS):
                try:
                    events = run.tick()
                except Dry as error:
                    dry += 1
                    for other in others:
                        self.check_dry(other, error.name)
                    break
                frame = gauge_values(model, run.state)
                for other in others:
                    self.assertEqual(other.tick(), events, seed)
                    self.assertEqual(other.frame(), frame, seed)
                    self.assertEqual((other.clock, other.reads), (run.clock, run.reads))
                for event in events:
                    words[event[2]] = words.get(event[2], 0) + 1
        self.assertEqual(len(words), 21)
        self.assertGreater(min(words.values()), 5)
        self.assertGreater(dry, 10)

    def check_dry(self, run, name):
        before = run.snapshot
        with self.assertRaises(Dry) as caught:
            run.tick()
        self.assertEqual((caught.exception.name, run.snapshot), (name, before))

    def test_leaps(self):
        leaps = 0
        for seed, model in models():
            tapes = random_tapes(model, seed, seed % 40)
            codes, tight = codes_of(model)
            run, flat = CalendarRun(model, codes if seed % 2 else tight, tapes), PlainRun(model, tapes)
            dice = random.Random(seed)
            frames, rows = [gauge_values(model, flat.state)], []
            try:
                for _ in range(TICKS + 10):
                    rows.append(flat.tick())
                    frames.append(gauge_values(model, flat.state))
            except Dry:
                pass
            while run.clock < TICKS:
                before = run.snapshot
                limit = dice.choice((run.clock, run.clock + 1, run.clock + 2, run.clock + 5, TICKS))
                busy = [tick for tick in range(before[0], min(limit, len(rows))) if rows[tick]]
                if not busy and limit > len(rows):
                    with self.assertRaises(Dry):
                        run.leap(limit)
                    self.assertEqual(run.snapshot, before)
                    break
                found = run.leap(limit)
                self.assertEqual(found, (busy[0], rows[busy[0]]) if busy else None)
                self.assertEqual(run.clock, busy[0] + 1 if busy else max(limit, before[0]))
                self.assertEqual(run.frame(), frames[run.clock])
                leaps += run.clock > before[0] + 1
        self.assertGreater(leaps, 100)

    def test_snapshots_of_one_run_are_resumed_by_another(self):
        for seed, model in models():
            tapes = random_tapes(model, seed, 300)
            codes, _ = codes_of(model)
            plain, flat, leaping = PlainRun(model, tapes), FlatRun(model, codes, tapes), CalendarRun(model, codes, tapes)
            while leaping.leap(9) is not None:
                pass
            list(plain.played(9))
            self.assertEqual(flat.resume(leaping.snapshot), max(9, leaping.clock))
            rest = plain.tried(9)
            self.assertEqual(flat.tried(9), rest)
            self.assertEqual(tuple(event for events in flat.played(4) for event in events), plain.tried(4))
            list(plain.played(4))
            leaping.snapshot = flat.snapshot
            told = ()
            found = leaping.leap(20)
            while found is not None:
                told += found[1]
                found = leaping.leap(20)
            self.assertEqual(told, plain.tried(7))


class Houses(unittest.TestCase):
    def test_all_ways_at_once(self):
        for seed in range(100):
            model, houses = random_houses(seed)
            tapes = random_tapes(model, seed, 300)
            plain, frames, trace = PlainRun(model, tapes), [], ()
            for _ in range(TICKS):
                trace += plain.tick()
                frames.append(gauge_values(model, plain.state))
            self.assertEqual(self.ahead(model, houses, tapes, seed), trace)
            self.assertEqual(self.guessed(model, houses, tapes, seed), trace)
            self.assertEqual(self.recorded(model, houses, tapes), trace)
            kept = KeptRun(model, tapes, seed % 9 + 1)
            kept.trace_to(TICKS // 2)
            self.assertEqual(kept.trace_to(TICKS), trace)
            for number, gauge in enumerate(gauges(model)):
                for a, b in ((0, TICKS), (3, 11)):
                    self.assertEqual(traced_tally(model, trace, gauge, a, b), gauge_tally(tuple(frames), number, a, b))

    def ahead(self, model, houses, tapes, seed):
        dice = random.Random(seed)
        run = AheadRun(model, houses, tapes)
        while run.final < TICKS:
            run.go(dice.choice(houses))
        return run.trace_below(TICKS)

    def guessed(self, model, houses, tapes, seed):
        dice = random.Random(seed)
        run = GuessRun(model, houses, tapes)
        while run.final < TICKS:
            house = dice.choice(houses)
            if run.under_way and (dice.random() < 0.5 or run.clocks[house] >= TICKS + 5):
                run.bring(dice.randrange(len(run.under_way)))
            elif run.clocks[house] < TICKS + 5:
                run.go(house)
        return run.trace_below(TICKS)

    def recorded(self, model, houses, tapes):
        rows = records(model, houses, tapes, TICKS)
        joined = ()
        for tick in range(TICKS):
            joined += join_events(model, tuple(row[1][tick] for row in rows))
        return joined


if __name__ == "__main__":
    unittest.main()
