"""Points [28], [30] and [31]: houses that run ahead of each other."""

import random
import unittest

from helpers import EXAMPLE, let, lines
from random_models import random_houses, random_tapes

from meantrace.ahead import AheadRun
from meantrace.errors import BadNumber, Dry, Split, TooLarge
from meantrace.histories import history
from meantrace.houses import links_of
from meantrace.plainruns import PlainRun

CHAIN = let("""model 2 streams s { belt b length 2 ; belt e length 3 ;
process p at 0 { } cycle { load b ; hold 1 ; }
process q at 0 { } cycle { unload b ; mark a ; load e ; hold 1 ; }
process w at 0 { } cycle { unload e ; draw s { at 0 { mark x ; } at 1 { mark y ; } } hold 1 ; }
}""")
RING = let("""model 2 streams { belt b length 2 ; belt e length 3 ;
process p at 0 { load b ; load b ; } cycle { unload e ; mark a ; load b ; hold 1 ; }
process q at 0 { } cycle { unload b ; mark b ; load e ; hold 1 ; }
}""")


def below(trace, tick):
    return tuple(event for event in trace if event[0] < tick)


class WhoCanGo(unittest.TestCase):
    def test_a_row_of_links(self):
        run = AheadRun(CHAIN, (0, 1, 2), ((0, 1, 0),))
        self.assertEqual((run.clocks, run.final), ((0, 0, 0), 0))
        # Nothing can come to q in its ticks 0 and 1 while p is at its tick 0, nor to w in three ticks.
        self.assertEqual([run.go(1) for _ in range(3)], [True, True, False])
        self.assertEqual(run.clocks, (0, 2, 0))
        self.assertEqual([run.go(2) for _ in range(6)], [True] * 5 + [False])
        self.assertEqual((run.clocks, run.final), ((0, 2, 5), 0))
        # No link leads to p.
        self.assertEqual([run.go(0) for _ in range(9)], [True] * 9)
        self.assertEqual([run.go(1) for _ in range(10)], [True] * 9 + [False])
        self.assertEqual((run.clocks, run.final), ((9, 11, 5), 5))

    def test_values_are_bools(self):
        run = AheadRun(CHAIN, (0, 1, 2), ((0, 1, 0),))
        self.assertIs(run.go(2), True)
        run.go(2)
        run.go(2)
        self.assertIs(run.go(2), False)

    def test_a_ring_of_links(self):
        run = AheadRun(RING, (0, 1), ())
        self.assertEqual([run.go(0) for _ in range(4)], [True] * 3 + [False])
        self.assertEqual([run.go(1) for _ in range(6)], [True] * 5 + [False])
        self.assertEqual([run.go(0) for _ in range(6)], [True] * 5 + [False])
        self.assertEqual((run.clocks, run.final), ((8, 5), 5))

    def test_several_links_into_a_house(self):
        model = let("""model 2 streams { belt b length 4 ; belt e length 1 ;
            process p at 0 { } cycle { load b ; hold 1 ; } process q at 0 { } cycle { load e ; hold 1 ; }
            process w at 0 { } cycle { unload b ; unload e ; hold 1 ; } }""")
        run = AheadRun(model, (2, 0, 1), ())
        self.assertEqual([run.go(1), run.go(1)], [True, False])
        for _ in range(9):
            run.go(0)
        self.assertEqual([run.go(1) for _ in range(4)], [True] * 3 + [False])
        run.go(2)
        self.assertEqual([run.go(1), run.go(1)], [True, False])

    def test_nothing_changes_if_a_house_cannot_go(self):
        run = AheadRun(CHAIN, (0, 1, 2), ((0, 1, 0),))
        run.go(1)
        run.go(1)
        for _ in range(3):
            self.assertFalse(run.go(1))
            self.assertEqual((run.clocks, run.final), ((0, 2, 0), 0))

    def test_houses_without_links(self):
        run = AheadRun(RING, (0, 0), ())
        self.assertEqual([run.go(0) for _ in range(30)], [True] * 30)
        self.assertEqual((run.clocks, run.final), ((30,), 30))
        self.assertEqual(run.trace_below(30), history(RING, (), ticks=30)[1])


class Traces(unittest.TestCase):
    def test_a_thing_comes_when_it_is_due(self):
        run = AheadRun(CHAIN, (0, 1, 2), ((0, 1, 0, 1, 1),))
        trace = history(CHAIN, ((0, 1, 0, 1, 1),), ticks=9)[1]
        for _ in range(9):
            for house in (2, 1, 0):
                self.assertTrue(run.go(house))
        self.assertEqual(run.trace_below(9), trace)
        self.assertEqual(lines(event for event in trace if event[0] == 5),
                         "p wake, p load b, p hold 1, q wake, q unload b, q mark a, q load e, q hold 1, "
                         "w unload e, w draw s, w mark x, w hold 1")

    def test_below_at_and_above_the_final_tick(self):
        run = AheadRun(CHAIN, (0, 1, 2), ((0, 1, 0),))
        trace = history(CHAIN, ((0, 1, 0),), ticks=3)[1]
        self.assertEqual(run.trace_below(0), ())
        for house in (0, 0, 0, 0, 1, 1, 1, 2, 2):
            run.go(house)
        self.assertEqual(run.final, 2)
        for n in range(3):
            self.assertEqual(run.trace_below(n), below(trace, n))
        before = run.clocks
        for n in (3, 4, 200):
            with self.assertRaises(TooLarge) as caught:
                run.trace_below(n)
            self.assertEqual((caught.exception.name, run.clocks), ("ticks", before))

    def test_one_house_that_ends(self):
        model = let("model 2 streams { process p at 2 { } cycle { end ; } process q at 0 { } cycle { hold 1 ; } }")
        run = AheadRun(model, (0, 0), ())
        self.assertEqual([run.go(0) for _ in range(5)], [True] * 5)
        self.assertEqual(run.trace_below(5), history(model, (), ticks=5)[1])

    def test_a_house_that_waits_for_things(self):
        model = let("""model 2 streams { belt b length 9 ; process p at 3 { load b ; load b ; } cycle { }
            process q at 0 { unload b ; hold 5 ; unload b ; mark a ; unload b ; mark z ; } cycle { } }""")
        run = AheadRun(model, (1, 0), ())
        for _ in range(20):
            run.go(1)
        for _ in range(20):
            run.go(0)
        self.assertEqual(run.trace_below(20), history(model, (), ticks=20)[1])
        self.assertEqual(lines(run.trace_below(20)),
                         "q wake, p wake, p load b, p load b, q unload b, q hold 5, q wake, q unload b, q mark a")

    def test_many_orders(self):
        ticks, linked = 25, 0
        for seed in range(120):
            model, houses = random_houses(seed)
            tapes = random_tapes(model, seed, 250)
            trace = history(model, tapes, ticks=ticks + 15)[1]
            dice = random.Random(seed)
            run = AheadRun(model, houses, tapes)
            linked += len(links_of(model, houses)) > 0
            while run.final < ticks:
                house = dice.choice(houses)
                self.check_go(run, model, houses, house)
                if run.final <= ticks + 15 and dice.random() < 0.2:
                    self.assertEqual(run.trace_below(run.final), below(trace, run.final))
            for n in range(ticks + 1):
                self.assertEqual(run.trace_below(n), below(trace, n), seed)
        self.assertGreater(linked, 30)

    def check_go(self, run, model, houses, house):
        clocks = run.clocks
        can = all(clocks[source] + length > clocks[house]
                  for _, length, source, goal in links_of(model, houses) if goal == house)
        self.assertIs(run.go(house), can)
        if clocks[house] == min(clocks):
            self.assertTrue(can)
        after = tuple(clock + (1 if number == house and can else 0) for number, clock in enumerate(clocks))
        self.assertEqual((run.clocks, run.final), (after, min(after)))


class WrongInputs(unittest.TestCase):
    def test_houses_that_are_not_there(self):
        run = AheadRun(CHAIN, (0, 1, 2), ((),))
        for house in (3, 4, 100, -1, -3):
            with self.assertRaises(BadNumber) as caught:
                run.go(house)
            self.assertEqual((caught.exception.value, run.clocks), (house, (0, 0, 0)))

    def test_split(self):
        with self.assertRaises(Split) as caught:
            AheadRun(let("model 2 streams { process p at 0 { end ; } cycle { } process q at 0 { } cycle { } }"), (1, 0), ())
        self.assertEqual(caught.exception.name, "p")

    def test_dry(self):
        run = AheadRun(CHAIN, (0, 1, 2), ((1,),))
        for _ in range(20):
            run.go(0)
            run.go(1)
        while run.clocks[2] < 6:
            self.assertTrue(run.go(2))
        before, trace = run.clocks, run.trace_below(6)
        for _ in range(3):
            with self.assertRaises(Dry) as caught:
                run.go(2)
            self.assertEqual(caught.exception.name, "s")
            self.assertEqual((run.clocks, run.final), (before, 6))
            self.assertEqual(run.trace_below(6), trace)
        self.assertTrue(run.go(0))
        self.assertEqual(trace, history(CHAIN, ((1,),), ticks=6)[1])

    def test_dry_as_a_plain_run(self):
        run = AheadRun(EXAMPLE, (0,), ((0, 1),))
        plain = PlainRun(EXAMPLE, ((0, 1),))
        for _ in range(2):
            run.go(0)
            plain.tick()
        for call in (lambda: run.go(0), plain.tick):
            with self.assertRaises(Dry):
                call()
        self.assertEqual(run.clocks, (2,))

    def test_a_house_that_cannot_go_is_not_dry(self):
        model = let("""model 2 streams s { belt b length 1 ; process p at 0 { load b ; } cycle { }
            process q at 0 { hold 1 ; draw s { at 0 1 { } } unload b ; } cycle { } }""")
        run = AheadRun(model, (0, 1), ((),))
        self.assertEqual([run.go(1), run.go(1)], [True, False])
        run.go(0)
        with self.assertRaises(Dry):
            run.go(1)


if __name__ == "__main__":
    unittest.main()
