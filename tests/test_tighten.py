"""Point [21]: code without jumps to jumps and without instructions that are not reached."""

import unittest

from helpers import EXAMPLE, let
from random_models import random_model

from meantrace.codes import code_of
from meantrace.tighten import tightened


def code(once, cycle="hold 1 ;", base=2):
    """The code of one process p with these bodies."""
    (found,) = code_of(let(f"""model {base} streams s {{ resource r plan 1 for 1 ; store c 0 of 9 ;
        process p at 0 {{ {once} }} cycle {{ {cycle} }} }}"""))
    return found


class Jumps(unittest.TestCase):
    def test_nothing_to_tighten(self):
        (found,) = code_of(EXAMPLE)
        # The jump at 3 leads to the next address; it is an instruction that is reached.
        self.assertEqual(tightened(found), found)
        self.assertEqual(tightened((("wait", 3), ("done",))), (("wait", 3), ("done",)))

    def test_a_jump_to_a_jump_in_a_draw(self):
        inner = "draw s { at 0 { mark a ; } at 1 { } }"
        found = code("", f"draw s {{ at 0 {{ {inner} }} at 1 {{ }} }} hold 1 ;")
        self.assertEqual(found, (
            ("wait", 0), ("draw", "s", (2, 6)), ("draw", "s", (3, 5)), ("mark", "a"), ("jump", 5),
            ("jump", 6), ("hold", 1), ("jump", 1),
        ))
        self.assertEqual(tightened(found), (
            ("wait", 0), ("draw", "s", (2, 5)), ("draw", "s", (3, 5)), ("mark", "a"), ("jump", 5),
            ("hold", 1), ("jump", 1),
        ))

    def test_a_long_row_of_jumps_in_the_cycle(self):
        inner = "if store c 1 { if store c 2 { if store c 3 { hold 1 ; } else { hold 2 ; } } else { hold 3 ; } }"
        found = code("", inner + " else { hold 4 ; }")
        self.assertEqual(found, (
            ("wait", 0),
            ("if", "store", "c", 1, 10), ("if", "store", "c", 2, 8), ("if", "store", "c", 3, 6), ("hold", 1),
            ("jump", 7), ("hold", 2), ("jump", 9), ("hold", 3), ("jump", 11), ("hold", 4), ("jump", 1),
        ))
        self.assertEqual(tightened(found), (
            ("wait", 0),
            ("if", "store", "c", 1, 10), ("if", "store", "c", 2, 8), ("if", "store", "c", 3, 6), ("hold", 1),
            ("jump", 1), ("hold", 2), ("jump", 1), ("hold", 3), ("jump", 1), ("hold", 4), ("jump", 1),
        ))

    def test_addresses_of_each_kind(self):
        arm = "draw s {{ at 0 {{ {} }} at 1 {{ mark z ; }} }}"
        self.assertEqual(tightened(code(arm.format("if store c 1 { mark a ; }")))[2],
                         ("if", "store", "c", 1, 6))
        self.assertEqual(tightened(code(arm.format("use r rank 1 patience 2 { } else { }")))[2],
                         ("use", "r", 1, 2, 6))
        self.assertEqual(tightened(code(arm.format("guard { } handle { }")))[2], ("guard", 6))
        self.assertEqual(tightened(code(arm.format("loop 2 { draw s { at 0 { mark a ; } at 1 { } } }"))), (
            ("wait", 0), ("draw", "s", (2, 8)), ("loop", 2), ("draw", "s", (4, 6)), ("mark", "a"), ("jump", 6),
            ("again", 3), ("jump", 9), ("mark", "z"), ("hold", 1), ("jump", 9),
        ))

    def test_a_draw_with_several_digits_for_an_address(self):
        inner = "draw s { at 1 { mark a ; } at 0 2 { } at 3 4 5 { } }"
        found = code("", f"draw s {{ at 5 1 {{ {inner} }} at 0 2 4 3 {{ hold 2 ; }} }} hold 1 ;", 6)
        self.assertEqual(found, (
            ("wait", 0), ("draw", "s", (7, 2, 7, 7, 7, 2)), ("draw", "s", (5, 3, 5, 6, 6, 6)), ("mark", "a"),
            ("jump", 6), ("jump", 6), ("jump", 8), ("hold", 2), ("hold", 1), ("jump", 1),
        ))
        self.assertEqual(tightened(found), (
            ("wait", 0), ("draw", "s", (5, 2, 5, 5, 5, 2)), ("draw", "s", (6, 3, 6, 6, 6, 6)), ("mark", "a"),
            ("jump", 6), ("hold", 2), ("hold", 1), ("jump", 1),
        ))


class NotReached(unittest.TestCase):
    def test_behind_stop_and_end(self):
        self.assertEqual(tightened(code("stop ; mark a ;")), (("wait", 0), ("stop",)))
        self.assertEqual(tightened(code("mark a ; end ; mark a ; hold 1 ;")), (("wait", 0), ("mark", "a"), ("end",)))

    def test_a_guard_whose_body_stops_keeps_its_handler(self):
        found = code("guard { mark a ; stop ; mark b ; } handle { mark c ; }")
        self.assertEqual(found, (
            ("wait", 0), ("guard", 7), ("mark", "a"), ("stop",), ("mark", "b"), ("unguard",), ("jump", 8),
            ("mark", "c"), ("hold", 1), ("jump", 8),
        ))
        self.assertEqual(tightened(found), (
            ("wait", 0), ("guard", 4), ("mark", "a"), ("stop",), ("mark", "c"), ("hold", 1), ("jump", 5),
        ))

    def test_behind_a_loop_that_stops(self):
        self.assertEqual(tightened(code("loop 3 { stop ; } mark a ;")), (("wait", 0), ("loop", 3), ("stop",)))

    def test_a_use_that_never_gives_back(self):
        self.assertEqual(tightened(code("use r rank 0 { stop ; } mark a ;")), (
            ("wait", 0), ("use", "r", 0, None, 3), ("stop",), ("mark", "a"), ("hold", 1), ("jump", 4),
        ))

    def test_the_jump_of_an_empty_arm(self):
        found = code("draw s { at 0 { } at 1 { mark a ; } }")
        self.assertEqual(found, (
            ("wait", 0), ("draw", "s", (2, 3)), ("jump", 4), ("mark", "a"), ("hold", 1), ("jump", 4),
        ))
        self.assertEqual(tightened(found), (
            ("wait", 0), ("draw", "s", (3, 2)), ("mark", "a"), ("hold", 1), ("jump", 3),
        ))

    def test_arms_that_all_stop(self):
        self.assertEqual(tightened(code("draw s { at 0 { stop ; } at 1 { end ; } }", "")), (
            ("wait", 0), ("draw", "s", (2, 3)), ("stop",), ("end",),
        ))


class AllModels(unittest.TestCase):
    def test_not_more_instructions_and_the_same_once_more(self):
        fewer = 0
        for seed in range(600):
            for found in code_of(random_model(seed)):
                short = tightened(found)
                fewer += len(short) < len(found)
                self.assertLessEqual(len(short), len(found))
                self.assertEqual(tightened(short), short)
                self.check(short)
        self.assertGreater(fewer, 100)

    def check(self, short):
        """No address is that of a jump, and each address is that of an instruction."""
        for instruction in short:
            addresses = ()
            if instruction[0] == "draw":
                addresses = instruction[2]
            elif instruction[0] in ("use", "if", "again", "guard", "jump"):
                addresses = instruction[-1:]
            for address in addresses:
                self.assertNotEqual(short[address][0], "jump")


if __name__ == "__main__":
    unittest.main()
