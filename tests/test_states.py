"""Points [11] and [12]: states, the state at the beginning, free units."""

import unittest

from helpers import EXAMPLE, let

from meantrace.plainruns import PlainRun
from meantrace.states import free_units, start_state

MANY = """
model 3 streams s {
counter k 2 of 9 ; store c 1 of 5 ; resource r plan 2 for 1 , 0 for 2 ; belt b length 3 ;
store d 0 of 9 ; resource q plan 4 for 9 ; counter m 0 of 1 ; belt e length 1 room 2 ;
process p at 0 { } cycle { } process w at 7 { hold 1 ; } cycle { hold 1 ; }
}
"""


class Starts(unittest.TestCase):
    def test_the_example(self):
        state = (0, (), (("held", 0, ((0, -1, 0),)),), (), (), (), ())
        self.assertEqual(start_state(EXAMPLE), state)

    def test_items_of_all_kinds_in_their_order(self):
        points = (("held", 0, ((0, -1, 0),)), ("held", 7, ((0, -1, 0),)))
        state = (0, (0, 0), points, ((), ()), (1, 0), ((), ()), (2, 0))
        self.assertEqual(start_state(let(MANY)), state)

    def test_nothing_at_all(self):
        self.assertEqual(start_state(("model", 2, (), (), ())), (0, (), (), (), (), (), ()))


class Free(unittest.TestCase):
    def test_resources_are_numbered_without_other_items(self):
        model = let(MANY)
        self.assertEqual(free_units(model, start_state(model), 0), 2)
        self.assertEqual(free_units(model, start_state(model), 1), 4)

    def test_units_that_become_fewer_than_are_in_use(self):
        run = PlainRun.of("""
            model 2 streams { resource r plan 2 for 1 , 0 for 2 , 1 for 1 ;
            process p at 0 { use r rank 1 { use r rank 1 { hold 9 ; } } } cycle { } }
        """, ())
        free = []
        for _ in range(5):
            run.tick()
            free.append(free_units(run.model, run.state, 0))
        self.assertEqual(free, [-2, -2, -1, 0, -2])
        self.assertEqual(run.state[1], (1,))

    def test_a_unit_is_had_in_the_first_body_only(self):
        run = PlainRun.of("""
            model 2 streams { resource r plan 1 for 9 ;
            process p at 0 { use r rank 1 patience 1 { hold 1 ; } else { } hold 1 ; } cycle { }
            process q at 0 { use r rank 1 patience 1 { } else { hold 9 ; } } cycle { } }
        """, ())
        free = []
        for _ in range(3):
            run.tick()
            free.append(free_units(run.model, run.state, 0))
        # In tick 1 the patience of q is over, but p gives its unit back ahead of the move of q.
        self.assertEqual(free, [0, 1, 1])
        self.assertEqual(run.state[3], ((),))


class Places(unittest.TestCase):
    def places(self, text, ticks):
        run = PlainRun.of(text, ())
        found = []
        for _ in range(ticks):
            run.tick()
            found.append(run.state[2])
        return found

    def test_once_and_cycle(self):
        text = "model 2 streams { process p at 1 { hold 1 ; } cycle { mark a ; hold 2 ; } }"
        self.assertEqual(self.places(text, 4), [
            (("held", 0, ((0, -1, 0),)),), (("held", 0, ((0, 0, 0), (0, -1, 0))),),
            (("held", 1, ((0, 1, 0), (1, -1, 0))),), (("held", 0, ((0, 1, 0), (1, -1, 0))),),
        ])

    def test_turns_and_bodies(self):
        text = """model 2 streams { resource r plan 0 for 1 ; process p at 0 {
            mark a ; loop 3 { guard { use r rank 1 patience 1 { } else { hold 1 ; } } handle { } }
            } cycle { } }"""
        head = ((0, 0, 0), (1, 0, 2), (0, 0, 0))
        self.assertEqual(self.places(text, 3), [
            (("asking", 0, (*head, (0, -1, 0))),),
            (("held", 0, (*head, (0, 1, 0), (0, -1, 0))),),
            (("asking", 0, ((0, 0, 0), (1, 0, 1), (0, 0, 0), (0, -1, 0))),),
        ])

    def test_bodies_that_are_none_of_a_loop_have_no_turns(self):
        hold = "hold 1 ;"
        rows = {
            f"if counter k 0 {{ {hold} }}": (0, 0), f"if counter k 5 {{ }} else {{ {hold} }}": (0, 1),
            f"use r rank 0 {{ {hold} }}": (0, 0), f"guard {{ {hold} }} handle {{ }}": (0, 0),
            f"draw s {{ at 1 {{ }} at 0 {{ {hold} }} }}": (0, 1),
            f"guard {{ interrupt p ; }} handle {{ {hold} }}": (0, 1),
        }
        for text, (k, b) in rows.items():
            run = PlainRun.of(f"""model 2 streams s {{ resource r plan 1 for 9 ; counter k 0 of 9 ;
                process p at 0 {{ {text} }} cycle {{ hold 1 ; {text} }} }}""", ((0,) * 9,))
            run.tick()
            self.assertEqual(run.state[2], (("held", 0, ((0, 0, 0), (k, b, 0), (0, -1, 0))),))
            run.tick()
            run.tick()
            self.assertEqual(run.state[2], (("held", 0, ((0, 1, 0), (k + 1, b, 0), (0, -1, 0))),))

    def test_done_has_no_place(self):
        text = "model 2 streams { process p at 0 { mark a ; } cycle { } }"
        self.assertEqual(self.places(text, 1), [(("done", 0, ()),)])


if __name__ == "__main__":
    unittest.main()
