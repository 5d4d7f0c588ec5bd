"""Point [36]: the chain of a model."""

import unittest

from helpers import EXAMPLE, let
from random_models import random_model, random_tapes

from meantrace.chainof import chain_of, states_of
from meantrace.chains import is_chain, walk
from meantrace.errors import Dry, TooMany
from meantrace.histories import shown_of
from meantrace.plainruns import PlainRun
from meantrace.states import start_state
from meantrace.ways import ways

# Two holds of 9 ticks in loops of 9 turns: a state for each tick of one round.
LOOPS = """model 2 streams s {{ resource r plan 1 for {} ;
process p at 0 {{ {} }} cycle {{ loop 9 {{ loop 2 {{ hold 9 ; }} }} {} hold 9 ; {} }} }}"""


def chains(model):
    """The chain of a model in another way: states by their numbers in a list."""
    states, rows = [start_state(model)], []
    for state in states:
        row = []
        for digits, events, after in ways(model, state):
            if after not in states:
                states.append(after)
            row.append((digits, shown_of(events), states.index(after)))
        rows.append(tuple(row))
    return tuple(states), ("chain", model[1], tuple(rows))


class Chains(unittest.TestCase):
    def test_the_example(self):
        self.assertEqual(chain_of(EXAMPLE),
                         ("chain", 2, ((((0,), ("a",), 1), ((1,), (), 1)), (((0,), ("a",), 1), ((1,), (), 1)))))
        first, second = states_of(EXAMPLE)
        self.assertEqual(first, start_state(EXAMPLE))
        self.assertEqual(second[2], (("held", 0, ((0, 1, 0), (1, -1, 0))),))

    def test_one_state(self):
        model = ("model", 3, (), (), ())
        self.assertEqual(chain_of(model), ("chain", 3, ((((), (), 0),),)))
        self.assertEqual(states_of(model), ((0, (), (), (), (), (), ()),))

    def test_states_in_the_order_in_which_they_are_met(self):
        model = let("""model 2 streams s { counter k 0 of 1 ;
            process p at 1 { } cycle { draw s { at 0 { hold 2 ; mark a ; } at 1 { add k 1 ; mark b ; end ; } } } }""")
        self.assertEqual(chain_of(model), ("chain", 2, (
            (((), (), 1),),
            (((0,), (), 2), ((1,), ("b",), 3)),
            (((), (), 4),),
            (((), (), 3),),
            (((0,), ("a",), 2), ((1,), ("a", "b"), 3)),
        )))
        self.assertEqual([state[6] for state in states_of(model)], [(0,), (0,), (0,), (1,), (0,)])

    def test_several_digits_in_a_tick(self):
        model = let("""model 3 streams s t { process p at 0 { } cycle {
            draw s { at 0 1 { } at 2 { draw t { at 0 1 2 { mark a ; } } } } mark b ; draw t { at 1 0 2 { } } hold 1 ; } }""")
        row = chain_of(model)[2][0]
        tapes = [(0, 0), (0, 1), (0, 2), (1, 0), (1, 1), (1, 2)] + [(2, d, e) for d in range(3) for e in range(3)]
        self.assertEqual([branch[0] for branch in row], tapes)
        self.assertEqual([branch[1] for branch in row], [("b",)] * 6 + [("a", "b")] * 9)

    def test_equal_states_that_are_come_to_in_different_ways(self):
        model = let("""model 2 streams s { process p at 0 { } cycle { draw s { at 0 { } at 1 { } } hold 1 ; } }""")
        self.assertEqual(len(states_of(model)), 2)
        self.assertEqual([[branch[2] for branch in row] for row in chain_of(model)[2]], [[1, 1], [1, 1]])


class TooLargeChains(unittest.TestCase):
    def assert_too_many(self, name, model):
        for function in (states_of, chain_of):
            with self.assertRaises(TooMany) as caught:
                function(model)
            self.assertEqual(caught.exception.name, name)

    def test_200_states_and_more(self):
        # The first state, and one for each tick of 18 * 9 + 9 = 171 and of the holds behind.
        for extra, many in (("", 172), ("hold 9 ; hold 9 ; hold 9 ;", 199), ("hold 9 ; hold 9 ; hold 9 ; hold 1 ;", 200)):
            model = let(LOOPS.format(1, "", extra, ""))
            self.assertEqual(len(states_of(model)), many)
            self.assertEqual(len(chain_of(model)[2]), many)
            self.assertTrue(is_chain(chain_of(model)))
        self.assert_too_many("states", let(LOOPS.format(1, "", "hold 9 ; hold 9 ; hold 9 ; hold 2 ;", "")))
        # With two phases of the plan there are twice as many states.
        self.assert_too_many("states", let(LOOPS.format(2, "", "", "")))

    def test_100_ways_and_more(self):
        # A comb: each of the draws ends the tick by 0, and the last one by 1, too.
        draw = "draw s { at 0 { stop ; } at 1 { } }"
        for many in (90, 98, 99, 100, 105):
            nines, rest = divmod(many, 9)
            text = f"loop {nines} {{ loop 9 {{ {draw} }} }}" if nines < 10 else (
                f"loop 9 {{ loop 9 {{ {draw} }} }} loop {nines - 9} {{ loop 9 {{ {draw} }} }}")
            model = let(f"model 2 streams s {{ process p at 0 {{ {text} {draw * rest} }} cycle {{ }} }}")
            if many >= 100:
                self.assert_too_many("ways", model)
                continue
            chain = chain_of(model)
            self.assertEqual(len(chain[2][0]), many + 1)
            self.assertTrue(is_chain(chain))

    def test_ways_that_are_many_at_once(self):
        inner = "draw s { at 0 1 2 3 4 5 { } }"
        for arms, many in (((2, 2, 1, 1, 1, 1), 96), ((2, 2, 2, 0, 0, 0), None), ((2, 2, 1, 1, 2, 0), None), ((9,) * 6, None)):
            body = " ".join(f"at {digit} {{ {inner * times} }}" for digit, times in enumerate(arms))
            model = let(f"model 6 streams s {{ process p at 1 {{ draw s {{ {body} }} }} cycle {{ }} }}")
            if many is None:
                self.assert_too_many("ways", model)
            else:
                self.assertEqual(len(chain_of(model)[2][1]), many)

    def test_ways_of_a_state_are_told_ahead_of_its_states(self):
        many_ways = "loop 7 { draw s { at 0 1 { } } }"
        # In tick 150 there are too many ways, in tick 200 too many states.
        text = LOOPS.format(1, "loop 8 { loop 2 { hold 9 ; } } hold 6 ;" + many_ways, "hold 9 ; hold 9 ; hold 9 ; hold 9 ;", "")
        self.assert_too_many("ways", let(text))
        text = LOOPS.format(1, "loop 9 { loop 2 { hold 9 ; } } hold 9 ; hold 9 ; hold 9 ; hold 9 ; hold 9 ;" + many_ways, "", "")
        self.assert_too_many("states", let(text))

    def test_states_of_a_row_ahead_of_the_ways_of_the_next_state(self):
        # The fork is in tick 189 + hold, so two states with numbers 190 + hold and 191 + hold are met there. In
        # both of them there are too many ways.
        lead = "loop 9 { loop 2 { hold 9 ; } } hold 9 ; hold 9 ; hold 9 ; "
        fork = "draw s { at 0 { hold 1 ; mark a ; } at 1 { hold 1 ; } } loop 7 { draw s { at 0 1 { } } }"
        for hold, name in ((7, "ways"), (8, "ways"), (9, "states")):
            self.assert_too_many(name, let(LOOPS.format(1, f"{lead} hold {hold} ; {fork}", "", "")))


class RandomModels(unittest.TestCase):
    def test_chains_and_plain_runs(self):
        made, large, ticks = 0, set(), 15
        for seed in range(400):
            model = random_model(seed)
            try:
                chain = chain_of(model)
            except TooMany as error:
                large.add(error.name)
                with self.assertRaises(TooMany) as caught:
                    states_of(model)
                self.assertEqual(caught.exception.name, error.name)
                continue
            made += 1
            self.assertTrue(is_chain(chain))
            if len(chain[2]) < 40:
                self.assertEqual((states_of(model), chain), chains(model))
            run = PlainRun(model, random_tapes(model, seed, 200))
            rows = [run.tick() for _ in range(ticks)]
            tape = tuple(event[4] for events in rows for event in events if event[2] == "draw")
            shown, state, read = walk(chain, tape, ticks)
            self.assertEqual(shown, tuple(shown_of(events) for events in rows))
            self.assertEqual(states_of(model)[state], run.state)
            self.assertEqual(read, len(tape))
            if tape:
                with self.assertRaises(Dry):
                    walk(chain, tape[:-1], ticks)
        self.assertGreater(made, 100)
        self.assertEqual(large, {"states", "ways"})


if __name__ == "__main__":
    unittest.main()
