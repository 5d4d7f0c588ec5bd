"""Models at random: whatever holds for all models holds for these."""

import unittest

from flat_reference import FlatReference, MissingDigit
from random_models import random_model, random_tapes

from meantrace.checks import check
from meantrace.codes import code_of
from meantrace.errors import Dry, TooMany
from meantrace.gauges import gauge_values, gauges
from meantrace.histories import history
from meantrace.moves import moved, next_mover, passed
from meantrace.plainruns import PlainRun
from meantrace.reading import read_model
from meantrace.replays import judge_trace, tapes_of
from meantrace.scenes import frames_of, scenes_of
from meantrace.states import free_units, start_state
from meantrace.tapes import is_complete
from meantrace.ways import ways
from meantrace.writing import write_model

SEEDS = range(400)
TICKS = 25


class RandomModels(unittest.TestCase):
    def test_texts_give_the_tree_back(self):
        for seed in SEEDS:
            model = random_model(seed)
            self.assertEqual(read_model(write_model(model)), model)

    def test_flat_code_has_the_same_events_and_frames(self):
        words = {}
        for seed in SEEDS:
            model = random_model(seed)
            tapes = random_tapes(model, seed, 60)
            run = PlainRun(model, tapes)
            flat = FlatReference(model, code_of(model), tapes)
            for tick in range(TICKS):
                try:
                    told = flat.tick()
                except MissingDigit:
                    with self.assertRaises(Dry):
                        run.tick()
                    break
                events = run.tick()
                self.assertEqual(events, tuple((tick, *event) for event in told), seed)
                self.assertEqual(gauge_values(model, run.state), flat.frame(), seed)
                self.assertEqual(run.reads, tuple(flat.reads.values()))
                for event in events:
                    words[event[2]] = words.get(event[2], 0) + 1
        # The models are worth something only if all that can happen does happen.
        self.assertEqual(len(words), 21)
        self.assertGreater(min(words.values()), 5)

    def test_no_process_makes_more_moves_than_its_bound(self):
        for seed in SEEDS:
            model = random_model(seed)
            bounds = check(model)
            tapes = random_tapes(model, seed, 60)
            run = PlainRun(model, tapes)
            for tick in range(TICKS):
                before = run.snapshot
                try:
                    events = run.tick()
                except Dry:
                    self.assertEqual(run.snapshot, before)
                    break
                counts, told, state = self.moves_in(model, tapes, before)
                self.assertEqual(told, events)
                self.assertEqual(state, run.state)
                for many, bound in zip(counts, bounds):
                    self.assertLessEqual(many, bound)

    def moves_in(self, model, tapes, snapshot):
        """The moves of each process in the next tick, its events and the state behind it."""
        clock, reads, state = snapshot
        reads = dict(zip(model[2], reads))
        counts = [0] * len(model[4])
        told = []
        number = next_mover(model, state)
        while number is not None:
            counts[number] += 1
            try:
                events, state = moved(model, state, clock, None)
            except Dry as dry:
                digit = tapes[model[2].index(dry.name)][reads[dry.name]]
                reads[dry.name] += 1
                events, state = moved(model, state, clock, digit)
            told.extend(events)
            number = next_mover(model, state)
        return counts, tuple(told), passed(model, state)

    def test_free_units_and_busy_units_are_the_units_of_the_plan(self):
        for seed in SEEDS:
            model = random_model(seed)
            resources = [item for item in model[3] if item[0] == "resource"]
            run = PlainRun(model, random_tapes(model, seed, 500))
            for _ in range(TICKS):
                run.tick()
                for number, item in enumerate(resources):
                    plan = [units for units, ticks in item[2] for _ in range(ticks)]
                    units = plan[run.state[1][number]]
                    busy = gauge_values(model, run.state)[2 * number]
                    self.assertEqual(free_units(model, run.state, number) + busy, units)

    def test_ways_are_complete_and_lead_where_runs_lead(self):
        several = 0
        for seed in SEEDS:
            model = random_model(seed)
            states = [start_state(model)]
            for state in states:
                try:
                    found = ways(model, state)
                except TooMany as error:
                    self.assertEqual(error.name, "ways")
                    continue
                several += len(found) > 1
                tapes = tuple(digits for digits, _, _ in found)
                self.assertTrue(is_complete(model[1], tapes))
                self.assertEqual(tapes, tuple(sorted(tapes)))
                for digits, events, after in found:
                    run = PlainRun(model, tapes_of(model, events))
                    run.resume((0, run.reads, state))
                    self.assertEqual(run.tick(), events)
                    self.assertEqual(run.state, after)
                    drawn = tuple(event[4] for event in events if event[2] == "draw")
                    self.assertEqual(drawn, digits)
                    if len(states) < 6 and after not in states:
                        states.append(after)
        self.assertGreater(several, 100)

    def test_histories_traces_and_scenes(self):
        for seed in SEEDS:
            model = random_model(seed)
            tapes = random_tapes(model, seed, 60)
            try:
                frames, trace = history(model, tapes, ticks=TICKS)
            except Dry:
                continue
            self.assertTrue(judge_trace(model, TICKS, trace))
            for tape, told in zip(tapes, tapes_of(model, trace)):
                self.assertEqual(tape[:len(told)], told)
            many = len(gauges(model))
            self.assertEqual(frames_of(scenes_of(frames), many, TICKS), frames)
            for at in range(0, len(trace), 7):
                self.assertFalse(judge_trace(model, TICKS, trace[:at] + trace[at + 1:]))
                self.assertFalse(judge_trace(model, TICKS, trace[:at + 1] + trace[at:]))
            quiet = all(event[0] != TICKS - 1 for event in trace)
            self.assertIs(judge_trace(model, TICKS - 1, trace), quiet)

    def test_runs_that_resume_or_fork_go_on_as_they_would_have(self):
        for seed in range(0, 400, 5):
            model = random_model(seed)
            tapes = random_tapes(model, seed, 500)
            run = PlainRun(model, tapes)
            run.tried(TICKS)
            for _ in run.played(7):
                pass
            snapshot = run.snapshot
            other = PlainRun(model, tapes)
            self.assertEqual(other.resume(snapshot), 7)
            twin = run.fork(tuple(tape[read:] for tape, read in zip(tapes, run.reads)))
            rest = run.tried(TICKS)
            self.assertEqual(run.snapshot, snapshot)
            self.assertEqual(other.tried(TICKS), rest)
            self.assertEqual(twin.tried(TICKS), rest)


if __name__ == "__main__":
    unittest.main()
