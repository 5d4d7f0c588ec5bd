"""Point [31]: houses that go at any time, and are taken back when something comes too late."""

import random
import unittest

from guess_reference import GuessReference
from helpers import let, lines
from random_models import random_houses, random_tapes

from meantrace.errors import BadNumber, Dry, Split, TooLarge
from meantrace.guesses import GuessRun
from meantrace.histories import history

# p loads two things at once, q passes on what it gets, w marks it.
ROW = let("""model 2 streams { belt b length 2 ; belt e length 3 ; belt f length 1 ;
process p at 0 { load b ; hold 1 ; load b ; load b ; } cycle { }
process q at 0 { } cycle { unload b ; load e ; load f ; hold 1 ; }
process w at 0 { } cycle { unload e ; mark a ; unload f ; mark b ; hold 1 ; }
}""")
# Without a thing in time, q loads another belt than with one.
CHOICE = let("""model 2 streams { belt b length 2 ; belt e length 4 ; belt f length 2 ; store c 0 of 9 ;
process p at 0 { load b ; } cycle { }
process q at 0 { unload b ; put c 1 ; } cycle { }
process w at 3 { if store c 1 { load e ; } else { load f ; load e ; load f ; } } cycle { }
process v at 0 { } cycle { unload f ; mark f ; hold 1 ; }
}""")


class OneLink(unittest.TestCase):
    def setUp(self):
        self.run = GuessRun(ROW, (0, 1, 1), ())

    def see(self):
        return (self.run.clocks, self.run.under_way, self.run.final)

    def test_letters_under_way(self):
        run = self.run
        self.assertEqual(self.see(), ((0, 0), (), 0))
        self.assertEqual(run.go(0), 0)
        self.assertEqual(self.see(), ((1, 0), ((1, "b", 2),), 0))
        self.assertEqual(run.go(0), 1)
        self.assertEqual(self.see(), ((2, 0), ((1, "b", 2), (1, "b", 3), (1, "b", 3)), 0))
        self.assertEqual([run.go(0), run.go(1), run.go(1)], [2, 0, 1])
        self.assertEqual(self.see(), ((3, 2), ((1, "b", 2), (1, "b", 3), (1, "b", 3)), 2))
        # The one in the middle is taken out; the numbers of those behind it become less.
        self.assertIs(run.bring(1), False)
        self.assertEqual(self.see(), ((3, 2), ((1, "b", 2), (1, "b", 3)), 2))
        self.assertIs(run.bring(0), False)
        self.assertEqual(self.see(), ((3, 2), ((1, "b", 3),), 2))

    def test_a_letter_that_comes_in_time(self):
        run = self.run
        run.go(0)
        run.go(1)
        run.go(1)
        # The clock of q is 2, and it has not done its tick 2 yet.
        self.assertIs(run.bring(0), False)
        self.assertEqual(self.see(), ((1, 2), (), 1))
        self.assertEqual(run.go(1), 2)
        run.go(0)
        self.assertEqual(run.trace_below(2), history(ROW, (), ticks=2)[1])

    def test_a_letter_that_comes_too_late(self):
        run = self.run
        run.go(0)
        for tick in range(4):
            self.assertEqual(run.go(1), tick)
        self.assertEqual(self.see(), ((1, 4), ((1, "b", 2),), 1))
        self.assertIs(run.bring(0), True)
        self.assertEqual(self.see(), ((1, 2), (), 1))
        self.assertEqual(run.go(1), 2)
        for _ in range(3):
            run.go(0)
        self.assertEqual(run.final, 3)
        self.assertEqual(run.trace_below(3), history(ROW, (), ticks=3)[1])

    def test_a_second_letter_for_the_same_due(self):
        run = self.run
        for _ in range(2):
            run.go(0)
        for _ in range(5):
            run.go(1)
        self.assertIs(run.bring(1), True)
        self.assertEqual(run.clocks, (2, 3))
        for _ in range(3):
            run.go(1)
        # The second one for tick 3 changes how many are due there: two.
        self.assertIs(run.bring(1), True)
        self.assertEqual(self.see(), ((2, 3), ((1, "b", 2),), 2))
        self.assertIs(run.bring(0), True)
        self.assertEqual(self.see(), ((2, 2), (), 2))


class TakenBack(unittest.TestCase):
    def see(self, run):
        return (run.clocks, run.under_way, run.final)

    def test_letters_that_take_things_back(self):
        run = GuessRun(CHOICE, (0, 1, 1, 2), ())
        for _ in range(5):
            run.go(1)
        # Nothing has come to q, so w has loaded f, e and f in its tick 3; e leads nowhere.
        self.assertEqual(self.see(run), ((0, 5, 0), ((1, "f", 5), (1, "f", 5)), 0))
        run.go(0)
        self.assertEqual(run.under_way, ((1, "f", 5), (1, "f", 5), (1, "b", 2)))
        for _ in range(7):
            run.go(2)
        self.assertIs(run.bring(0), True)
        self.assertEqual(self.see(run), ((1, 5, 5), ((1, "f", 5), (1, "b", 2)), 1))
        self.assertIs(run.bring(1), True)
        self.assertEqual(self.see(run), ((1, 2, 5), ((1, "f", 5), (-1, "f", 5), (-1, "f", 5)), 1))
        run.go(2)
        run.go(2)
        # One of the two is taken back there: nothing is due any more.
        self.assertIs(run.bring(1), True)
        self.assertEqual(self.see(run), ((1, 2, 5), ((1, "f", 5), (-1, "f", 5)), 1))
        run.go(2)
        # The sum is below 0, and still nothing is due; then it is 0.
        self.assertIs(run.bring(1), False)
        self.assertEqual(self.see(run), ((1, 2, 6), ((1, "f", 5),), 1))
        self.assertIs(run.bring(0), False)
        self.assertEqual(self.see(run), ((1, 2, 6), (), 1))
        for house, many in ((0, 8), (1, 7), (2, 3)):
            for _ in range(many):
                run.go(house)
        self.assertEqual(self.see(run), ((9, 9, 9), (), 9))
        trace = history(CHOICE, (), ticks=9)[1]
        self.assertEqual(run.trace_below(9), trace)
        self.assertNotIn("f", [event[3] for event in trace])

    def test_sums_below_0(self):
        run = GuessRun(CHOICE, (0, 1, 1, 2), ())
        for _ in range(5):
            run.go(1)
        run.go(0)
        for _ in range(6):
            run.go(2)
        self.assertIs(run.bring(2), True)
        self.assertEqual(run.under_way, ((1, "f", 5), (1, "f", 5), (-1, "f", 5), (-1, "f", 5)))
        # -1, -2, -1, 0: never is anything due.
        self.assertEqual([run.bring(2), run.bring(2), run.bring(0), run.bring(0)], [False] * 4)
        self.assertEqual(self.see(run), ((1, 2, 6), (), 1))

    def test_the_order_of_letters_is_that_of_loading(self):
        model = let("""model 2 streams { belt b length 1 ; belt e length 2 ; belt f length 5 ; belt i length 1 ;
            process p at 0 { load i ; } cycle { }
            process q at 0 { unload i ; stop ; } cycle { }
            process w at 0 { } cycle { load e ; load b ; load f ; load b ; hold 1 ; }
            process v at 0 { unload b ; unload e ; unload f ; } cycle { } }""")
        run = GuessRun(model, (0, 1, 1, 2), ())
        for _ in range(3):
            run.go(1)
        sent = [(1, "e", 2), (1, "b", 1), (1, "f", 5), (1, "b", 1), (1, "e", 3), (1, "b", 2), (1, "f", 6), (1, "b", 2),
                (1, "e", 4), (1, "b", 3), (1, "f", 7), (1, "b", 3)]
        self.assertEqual(run.under_way, tuple(sent))
        run.go(0)
        self.assertIs(run.bring(12), True)
        self.assertEqual(run.clocks, (1, 1, 0))
        self.assertEqual(run.under_way, tuple(sent + [(-1, belt, due) for _, belt, due in sent[4:]]))

    def test_a_house_that_is_taken_back_reads_its_digits_again(self):
        model = let("""model 2 streams s { belt b length 1 ; store c 0 of 9 ;
            process p at 0 { load b ; } cycle { }
            process q at 0 { unload b ; put c 1 ; } cycle { }
            process w at 0 { } cycle { draw s { at 0 { mark a ; } at 1 { if store c 1 { mark b ; } } } hold 1 ; } }""")
        tapes = ((1, 1, 0, 1),)
        run = GuessRun(model, (0, 1, 1), tapes)
        for _ in range(4):
            run.go(1)
        with self.assertRaises(Dry):
            run.go(1)
        run.go(0)
        self.assertTrue(run.bring(0))
        self.assertEqual(run.clocks, (1, 1))
        self.assertEqual([run.go(1) for _ in range(3)], [1, 2, 3])
        with self.assertRaises(Dry):
            run.go(1)
        for _ in range(4):
            run.go(0)
        self.assertEqual(run.trace_below(4), history(model, tapes, ticks=4)[1])


class ManyOrders(unittest.TestCase):
    def test_against_the_reference_and_the_plain_run(self):
        ticks, taken, below = 12, 0, 0
        for seed in range(200):
            model, houses = random_houses(seed)
            tapes = random_tapes(model, seed, 250)
            trace = history(model, tapes, ticks=40)[1]
            dice = random.Random(seed)
            run, other = GuessRun(model, houses, tapes), GuessReference(model, houses, tapes)
            final = 0
            while run.final < ticks:
                if run.under_way and dice.random() < 0.6:
                    number = dice.randrange(len(run.under_way))
                    back = run.bring(number)
                    taken += back
                    self.assertIs(back, other.bring(number))
                else:
                    house = dice.choice(houses)
                    if run.clocks[house] < ticks + 8:
                        self.assertEqual(run.go(house), other.go(house))
                below += min(other.sums.values(), default=0) < 0
                self.assertEqual(run.clocks, tuple(other.clocks))
                self.assertEqual(run.under_way, tuple(other.letters))
                self.assertEqual(run.final, other.final())
                self.assertGreaterEqual(run.final, final)
                final = run.final
                told = tuple(event for event in trace if event[0] < final)
                self.assertEqual(run.trace_below(final), told, seed)
        self.assertGreater(taken, 100)
        self.assertGreater(below, 0)


class WrongInputs(unittest.TestCase):
    def test_letters_that_are_not_there(self):
        run = GuessRun(ROW, (0, 1, 2), ())
        for k in (0, 1, -1):
            with self.assertRaises(BadNumber) as caught:
                run.bring(k)
            self.assertEqual(caught.exception.value, k)
        run.go(0)
        run.go(0)
        before = (run.clocks, run.under_way, run.final)
        for k in (3, 4, 100, -1, -3, -100):
            with self.assertRaises(BadNumber) as caught:
                run.bring(k)
            self.assertEqual(caught.exception.value, k)
            self.assertEqual((run.clocks, run.under_way, run.final), before)

    def test_houses_that_are_not_there(self):
        run = GuessRun(ROW, (0, 1, 2), ())
        for house in (3, 50, -1, -2):
            with self.assertRaises(BadNumber) as caught:
                run.go(house)
            self.assertEqual((caught.exception.value, run.clocks), (house, (0, 0, 0)))

    def test_below_at_and_above_the_final_tick(self):
        run = GuessRun(ROW, (0, 1, 2), ())
        for house in (0, 1, 2):
            for _ in range(6):
                run.go(house)
        self.assertEqual((run.clocks, run.final), ((6, 6, 6), 2))
        trace = history(ROW, (), ticks=2)[1]
        self.assertEqual(run.trace_below(2), trace)
        self.assertEqual(run.trace_below(1), tuple(event for event in trace if event[0] < 1))
        self.assertEqual(run.trace_below(0), ())
        before = run.under_way
        for n in (3, 6, 200):
            with self.assertRaises(TooLarge) as caught:
                run.trace_below(n)
            self.assertEqual((caught.exception.name, run.clocks, run.under_way), ("ticks", (6, 6, 6), before))

    def test_split(self):
        model = let("""model 2 streams { belt b length 2 room 1 ; process p at 0 { load b ; } cycle { }
            process q at 0 { unload b ; } cycle { } }""")
        with self.assertRaises(Split) as caught:
            GuessRun(model, (0, 1), ())
        self.assertEqual(caught.exception.name, "b")

    def test_dry_in_a_house(self):
        model = let("""model 2 streams s { belt b length 3 ; process p at 0 { } cycle { load b ; hold 1 ; }
            process q at 0 { } cycle { draw s { at 0 1 { mark a ; } } load b ; hold 2 ; }
            process w at 0 { } cycle { unload b ; hold 1 ; } }""")
        run = GuessRun(model, (0, 0, 1), ((1,),))
        run.go(0)
        run.go(0)
        before = (run.clocks, run.under_way, run.final)
        for _ in range(2):
            with self.assertRaises(Dry) as caught:
                run.go(0)
            self.assertEqual(caught.exception.name, "s")
            self.assertEqual((run.clocks, run.under_way, run.final), before)
        self.assertEqual(before, ((2, 0), ((1, "b", 3), (1, "b", 3), (1, "b", 4)), 0))
        run.go(1)
        run.go(1)
        self.assertEqual(lines(run.trace_below(1)), "p wake, p load b, p hold 1, q wake, q draw s 1, q mark a, q load b, "
                                                    "q hold 2, w wake")

    def test_a_house_that_goes_by_wrong_letters_can_be_dry(self):
        model = let("""model 2 streams s { belt b length 1 ; store c 0 of 1 ; process p at 0 { load b ; } cycle { }
            process q at 0 { unload b ; put c 1 ; } cycle { }
            process w at 2 { if store c 1 { } else { draw s { at 0 1 { } } } } cycle { } }""")
        run = GuessRun(model, (0, 1, 1), ((),))
        run.go(1)
        run.go(1)
        with self.assertRaises(Dry):
            run.go(1)
        self.assertEqual(run.clocks, (0, 2))
        run.go(0)
        self.assertTrue(run.bring(0))
        self.assertEqual([run.go(1) for _ in range(4)], [1, 2, 3, 4])


if __name__ == "__main__":
    unittest.main()
