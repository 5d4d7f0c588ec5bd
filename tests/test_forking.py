"""Point [44]: estimates over plain runs of a model."""

import random
import unittest

from helpers import EXAMPLE, let
from random_models import random_model
from random_webs import fair_plan, random_plan

from meantrace.chainof import chain_of
from meantrace.errors import Dry, TooMany
from meantrace.estimates import estimate
from meantrace.forking import estimate_runs
from meantrace.plainruns import PlainRun

ONE, NONE, HALF = (1, 1), (0, 1), (1, 2)
TWO = let("""model 3 streams s t { counter c 0 of 2 ;
    process p at 0 { } cycle { draw s { at 0 { mark a ; } at 1 2 { draw t { at 0 { mark g ; } at 1 2 { add c 1 ; } } } } hold 1 ; }
    process q at 1 { } cycle { draw t { at 0 1 { } at 2 { if counter c 2 { mark g ; } drop c 1 ; } } hold 2 ; } }""")


def keep_all(goal, base=2):
    return ("plan", base, goal, (), (ONE,), ((((base, ONE, 0),),),))


def marks_of(model):
    """All marks in a model."""
    found, parts = [], [model]
    while parts:
        part = parts.pop()
        if isinstance(part, tuple):
            if len(part) == 2 and part[0] == "mark":
                found.append(part[1])
            parts.extend(part)
    return sorted(set(found))


def renamed(plan, model):
    """The plan with marks and a goal that the model shows, as far as it has so many."""
    names = marks_of(model) + ["x1", "x2", "x3"]
    return (*plan[:2], names[0], tuple(names[1:1 + len(plan[3])]), *plan[4:])


class EstimateRuns(unittest.TestCase):
    def test_by_hand(self):
        self.assertEqual(estimate_runs(EXAMPLE, keep_all("a"), 3, (1, 1, 0), ()), (ONE, 3, 0))
        self.assertEqual(estimate_runs(EXAMPLE, keep_all("a"), 2, (1, 1, 0), ()), (NONE, 2, 0))
        self.assertEqual(estimate_runs(EXAMPLE, keep_all("b"), 4, (1, 1, 0, 0, 1), ()), (NONE, 4, 0))

    def test_several_streams_in_one_tick(self):
        # p reads s and then t, q reads t; all of them from the one tape.
        self.assertEqual(estimate_runs(TWO, keep_all("g", 3), 1, (1, 0), ()), (ONE, 2, 0))
        self.assertEqual(estimate_runs(TWO, keep_all("g", 3), 2, (1, 1, 2, 2, 2), ()), (ONE, 5, 0))
        self.assertEqual(estimate_runs(TWO, keep_all("g", 3), 2, (1, 1, 2, 2, 1), ()), (NONE, 5, 0))
        self.assertEqual(estimate_runs(TWO, keep_all("g", 3), 2, (0, 0, 2), ()), (NONE, 3, 0))

    def test_like_a_plain_run_with_the_tapes_told_apart(self):
        dice = random.Random(440)
        for _ in range(60):
            tape = tuple(dice.randrange(3) for _ in range(60))
            score, read, tossed = estimate_runs(TWO, keep_all("g", 3), 9, tape, ())
            # The streams of the digits, in order, by a run that has each digit on both tapes.
            tapes = ([], [])
            run = PlainRun(TWO, ((), ()))
            left, shown, ticks = list(tape), [], 0
            while ticks < 9 and "g" not in shown:
                run.tapes = tuple(tuple(digits) for digits in tapes)
                try:
                    shown = [event[3] for event in run.tick() if event[2] == "mark"]
                    ticks += 1
                except Dry as error:
                    tapes[("s", "t").index(error.name)].append(left.pop(0))
            self.assertEqual((score, read, tossed), (ONE if "g" in shown else NONE, 60 - len(left), 0))

    def test_a_run_that_has_ended(self):
        model = let("model 2 streams s { process p at 1 { mark a ; end ; } cycle { } }")
        split = ("plan", 2, "g", ("a",), (ONE,), (((((2, ONE, 0),) * 2), ((2, ONE, 0),)),))
        self.assertEqual(estimate_runs(model, split, 60, (), ()), (NONE, 0, 0))

    def test_the_goal_in_a_tick_that_ends_the_run(self):
        model = let("model 2 streams s { process p at 0 { mark a ; mark g ; end ; } cycle { } }")
        self.assertEqual(estimate_runs(model, keep_all("g"), 1, (), ()), (ONE, 0, 0))

    def test_no_processes(self):
        model = let("model 2 streams { }")
        self.assertEqual(estimate_runs(model, keep_all("g"), 60, (), ()), (NONE, 0, 0))

    def test_too_many_copies(self):
        four = ("plan", 2, "g", (), (ONE,), ((((2, ONE, 0),) * 4,),))
        self.assertEqual(estimate_runs(EXAMPLE, four, 3, (0,) * 21, ()), (NONE, 21, 0))
        for tape in ((0,) * 85, (0,) * 200):
            with self.assertRaises(TooMany) as caught:
                estimate_runs(EXAMPLE, four, 4, tape, ())
            self.assertEqual(caught.exception.name, "copies")
        with self.assertRaises(Dry):
            estimate_runs(EXAMPLE, four, 4, (0,) * 84, ())

    def test_dry(self):
        plan = ("plan", 3, "g", (), (ONE,), ((((2, ONE, 0),),),))
        for tape, coins, name in (((), (), "tape"), ((1,), (), "tape"), ((0,), (), "coins"), ((0,), (0,), "tape"),
                                  ((0, 1, 1), (1,), "tape"), ((0, 0, 0), (1,), "coins")):
            with self.assertRaises(Dry) as caught:
                estimate_runs(TWO, plan, 3, tape, coins)
            self.assertEqual(caught.exception.name, name)

    def test_models_without_a_chain(self):
        # Three counters of 9, 9 and 9: 1000 states.
        model = let("""model 2 streams s { counter a 0 of 9 ; counter b 0 of 9 ; counter c 0 of 9 ;
            process p at 0 { } cycle { draw s { at 0 { add a 1 ; } at 1 { drop a 1 ; } } draw s { at 0 { add b 1 ; } at 1 { drop b 1 ; } }
            draw s { at 0 { add c 1 ; } at 1 { drop c 1 ; } } if counter c 2 { mark g ; } hold 1 ; } }""")
        with self.assertRaises(TooMany):
            chain_of(model)
        self.assertEqual(estimate_runs(model, keep_all("g"), 5, (1, 1, 0, 1, 1, 0), ()), (ONE, 6, 0))

    def test_the_same_as_over_the_chain(self):
        dice = random.Random(441)
        many = 0
        for seed in range(150):
            model = random_model(seed)
            try:
                chain = chain_of(model)
            except TooMany:
                continue
            for _ in range(4):
                plan = renamed(dice.choice((fair_plan, random_plan))(dice), model)
                length = dice.choice((0, 3, 10, 200))
                tape = tuple(dice.randrange(model[1]) for _ in range(length))
                coins = tuple(dice.randrange(plan[1]) for _ in range(dice.choice((0, 5, 200))))
                told = [self.outcome(way, source, plan, 1 + seed % 8, tape, coins)
                        for way, source in ((estimate, chain), (estimate_runs, model))]
                self.assertEqual(told[0], told[1])
                many += 0 if isinstance(told[0], str) else 1
        self.assertGreater(many, 100)

    def outcome(self, way, source, *told):
        try:
            return way(source, *told)
        except (Dry, TooMany) as error:
            return error.name


if __name__ == "__main__":
    unittest.main()
