"""Points [32] and [34]: changed models, and the first touch."""

import unittest

from helpers import let
from random_models import random_change, random_model, random_tapes
from touch_reference import touches

from meantrace.errors import Dry
from meantrace.plainruns import PlainRun
from meantrace.touches import first_touch, is_changed

ITEMS = """resource r plan 1 for 2 , 0 for 1 ; store c 0 of 9 ; belt b length 3 ; counter k 0 of 9 ; store d 2 of 5 ;"""


def make(body, items=ITEMS, cycle="hold 9 ;", more="", start=0, streams="s t"):
    return let(f"model 2 streams {streams} {{ {items} process p at {start} {{ {body} }} cycle {{ {cycle} }} {more} }}")


class ChangedModels(unittest.TestCase):
    MODEL = ("model", 3, ("s", "t"), (("store", "c", 0, 9), ("belt", "b", 3, None), ("store", "d", 0, 9)),
             (("process", "p", 0, (), ()), ("process", "q", 0, (), ())))

    def assert_changed(self, expected, **parts):
        word, base, streams, items, processes = self.MODEL
        model = (word, parts.get("base", base), parts.get("streams", streams), parts.get("items", items),
                 parts.get("processes", processes))
        self.assertIs(is_changed(self.MODEL, model), expected)
        self.assertIs(is_changed(model, self.MODEL), expected)

    def test_what_may_differ(self):
        self.assert_changed(True)
        self.assert_changed(True, items=(("store", "c", 3, 4), ("belt", "b", 1, 2), ("store", "d", 1, 1)))
        hold = (("hold", 1),)
        self.assert_changed(True, processes=(("process", "p", 4, hold, hold), ("process", "q", 9, (), hold)))

    def test_base_and_streams(self):
        self.assert_changed(False, base=2)
        self.assert_changed(False, streams=("t", "s"))
        self.assert_changed(False, streams=("s",))
        self.assert_changed(False, streams=("s", "t", "u"))
        self.assert_changed(False, streams=("s", "u"))
        self.assert_changed(False, streams=())

    def test_items(self):
        c, b, d = self.MODEL[3]
        self.assert_changed(False, items=(c, d, b))
        self.assert_changed(False, items=(d, b, c))
        self.assert_changed(False, items=(c, b))
        self.assert_changed(False, items=(c, b, d, ("store", "e", 0, 9)))
        self.assert_changed(False, items=(("store", "e", 0, 9), b, d))
        self.assert_changed(False, items=(("counter", "c", 0, 9), b, d))

    def test_processes(self):
        p, q = self.MODEL[4]
        self.assert_changed(False, processes=(q, p))
        self.assert_changed(False, processes=(p,))
        self.assert_changed(False, processes=(p, q, ("process", "w", 0, (), ())))
        self.assert_changed(False, processes=(p, ("process", "w", 0, (), ())))
        self.assert_changed(False, processes=())


class Touches(unittest.TestCase):
    def assert_touch(self, tick, elder, model, ticks=40, tapes=((0, 1, 0), (1, 1))):
        """The first touch, told in both ways; ahead of it both models do the same."""
        self.assertEqual(first_touch(elder, model, tapes, ticks), tick)
        self.assertEqual(touches(elder, model, tapes, ticks)[:1], [] if tick is None else [tick])
        if tick is not None:
            self.assertIsNone(first_touch(elder, model, tapes, tick))
            self.assertEqual(first_touch(elder, model, tapes, tick + 1), tick)
        run, other = PlainRun(elder, tapes), PlainRun(model, tapes)
        if tick == 0:
            return
        for _ in range(ticks if tick is None else tick):
            self.assertEqual(run.snapshot, other.snapshot)
            self.assertEqual(run.tick(), other.tick())
        self.assertEqual(run.snapshot, other.snapshot)

    def assert_statement(self, statement, other, tick=3, behind="hold 1 ; mark z ;"):
        """A statement that is come to in tick 3, and another one in its place."""
        text = "hold 3 ; {} {}"
        self.assert_touch(tick, make(text.format(statement, behind)), make(text.format(other, behind)))


class ChangedStatements(Touches):
    def test_other_parts(self):
        pairs = (
            ("hold 2 ;", "hold 3 ;"), ("mark a ;", "mark b ;"), ("mark a ;", "hold 1 ;"), ("add k 1 ;", "add k 2 ;"),
            ("add k 1 ;", "drop k 1 ;"), ("put c 1 ;", "put c 2 ;"), ("put c 1 ;", "put d 1 ;"), ("put c 1 ;", "put c 1 , d 1 ;"),
            ("put c 1 , d 1 ;", "put d 1 , c 1 ;"), ("take d 1 ;", "take c 1 ;"), ("load b ;", "unload b ;"), ("stop ;", "end ;"),
            ("draw s { at 0 1 { } }", "draw t { at 0 1 { } }"), ("draw s { at 0 1 { } }", "draw s { at 1 0 { } }"),
            ("draw s { at 0 { } at 1 { } }", "draw s { at 0 1 { } }"), ("draw s { at 0 { } at 1 { } }", "draw s { at 1 { } at 0 { } }"),
            ("use r rank 1 { }", "use r rank 2 { }"), ("use r rank 1 { }", "use r rank 1 patience 1 { } else { }"),
            ("use r rank 1 patience 1 { } else { }", "use r rank 1 patience 2 { } else { }"),
            ("if store c 1 { }", "if store c 2 { }"), ("if store c 1 { }", "if store d 1 { }"), ("if free r 1 { }", "if queue r 1 { }"),
            ("loop 2 { mark a ; }", "loop 3 { mark a ; }"), ("guard { } handle { }", "loop 1 { }"),
            ("interrupt p ;", "interrupt q ;"),
        )
        for statement, other in pairs:
            more = "process q at 9 { } cycle { }"
            text = "hold 3 ; {} hold 1 ; mark z ;"
            self.assert_touch(3, make(text.format(statement), more=more), make(text.format(other), more=more))
            self.assert_touch(3, make(text.format(other), more=more), make(text.format(statement), more=more))

    def test_which_bodies_are_empty(self):
        pairs = (
            ("draw s { at 0 { mark a ; } at 1 { } }", "draw s { at 0 { } at 1 { } }"),
            ("draw s { at 0 { mark a ; } at 1 { } }", "draw s { at 0 { } at 1 { mark a ; } }"),
            ("use r rank 1 { }", "use r rank 1 { mark a ; }"),
            ("use r rank 1 patience 1 { } else { }", "use r rank 1 patience 1 { } else { mark a ; }"),
            ("if store c 1 { }", "if store c 1 { mark a ; }"), ("if store c 1 { }", "if store c 1 { } else { mark a ; }"),
            ("loop 2 { }", "loop 2 { mark a ; }"), ("guard { } handle { }", "guard { mark a ; } handle { }"),
            ("guard { } handle { }", "guard { } handle { mark a ; }"),
        )
        for statement, other in pairs:
            self.assert_statement(statement, other)
            self.assert_statement(other, statement)

    def test_what_is_changed_inside_does_not_change_the_statement(self):
        self.assert_statement("loop 2 { hold 2 ; mark a ; }", "loop 2 { hold 2 ; mark b ; }", 5)
        self.assert_statement("if store c 1 { mark a ; }", "if store c 1 { mark b ; }", None)
        self.assert_statement("draw s { at 0 { hold 1 ; mark a ; } at 1 { mark a ; } }",
                              "draw s { at 0 { hold 1 ; mark b ; } at 1 { mark c ; } }", 4)
        self.assert_statement("guard { hold 1 ; } handle { mark a ; }", "guard { hold 1 ; } handle { mark b ; }", None)
        self.assert_statement("use r rank 0 patience 1 { hold 1 ; } else { hold 2 ; }",
                              "use r rank 0 patience 1 { hold 1 ; } else { hold 1 ; }", None)

    def test_the_last_one_of_its_body_or_not(self):
        # The hold at 3 is the last one of its body in one of both models.
        self.assert_touch(3, make("hold 3 ; hold 2 ;"), make("hold 3 ; hold 2 ; mark a ;"))
        self.assert_touch(3, make("hold 3 ; hold 2 ; mark a ;"), make("hold 3 ; hold 2 ;"))
        self.assert_touch(3, make("hold 3 ; loop 2 { hold 2 ; }"), make("hold 3 ; loop 2 { hold 2 ; mark a ; }"))
        self.assert_touch(0, make("hold 3 ;"), make("hold 3 ; hold 2 ;"))
        self.assert_touch(5, make("hold 3 ; hold 2 ; mark a ; mark c ;"), make("hold 3 ; hold 2 ; mark b ; mark c ;"))

    def test_no_statement_at_its_path(self):
        self.assert_touch(3, make("hold 3 ; mark a ; hold 1 ; mark b ;"), make("hold 3 ; mark a ;"))
        # The statement in front is changed as well, since it is the last one there.
        self.assert_touch(0, make("hold 3 ; mark a ;"), make("hold 3 ;"))
        # The third arm is not there in the other model; its draw is changed.
        elder = let("model 3 streams s { process p at 0 { hold 2 ; draw s { at 0 { } at 1 { } at 2 { mark a ; } } mark b ; } cycle { } }")
        model = let("model 3 streams s { process p at 0 { hold 2 ; draw s { at 0 { } at 1 2 { } } mark b ; } cycle { } }")
        self.assert_touch(2, elder, model, tapes=((2,),))

    def test_a_statement_that_comes_elsewhere(self):
        self.assert_touch(3, make("hold 3 ; mark a ; mark b ; mark c ;"), make("hold 3 ; mark b ; mark a ; mark c ;"))
        self.assert_touch(0, make("hold 3 ; mark b ;"), make("mark a ; hold 3 ; mark b ;"))

    def test_an_item_that_differs(self):
        items = "store c 0 of {} ; belt b length {} {} ; counter k 0 of {} ; resource r plan 1 for 1 ;"
        elder = items.format(9, 3, "", 9)
        text = "hold 3 ; {} hold 1 ; mark z ;"
        changes = (
            (items.format(8, 3, "", 9), ("put c 1 ;", "if store c 1 { }")),
            (items.format(9, 2, "", 9), ("load b ;", "unload b ;", "if belt b 1 { }")),
            (items.format(9, 3, "room 5", 9), ("load b ;",)),
            (items.format(9, 3, "", 1), ("add k 1 ;", "drop k 1 ;", "if counter k 2 { }")),
        )
        for other, statements in changes:
            for statement in statements:
                self.assert_touch(3, make(text.format(statement), elder), make(text.format(statement), other))
                # What is named in a body does not count for the statement around it.
                inside = "if free r 1 { hold 2 ; " + statement + " }"
                self.assert_touch(5, make(text.format(inside), elder), make(text.format(inside), other))
                inside = "if free r 9 { " + statement + " }"
                self.assert_touch(None, make(text.format(inside), elder), make(text.format(inside), other))
        self.assert_touch(None, make("put c 1 ; hold 9 ;", elder), make("put c 1 ; hold 9 ;", items.format(9, 2, "", 1)))

    def test_an_item_in_one_of_several_parts(self):
        elder, other = "store c 0 of 9 ; store d 0 of 9 ;", "store c 0 of 9 ; store d 0 of 8 ;"
        self.assert_touch(2, make("hold 2 ; put c 1 , d 1 ; hold 1 ;", elder), make("hold 2 ; put c 1 , d 1 ; hold 1 ;", other))

    def test_in_the_cycle(self):
        self.assert_touch(4, make("hold 1 ;", cycle="hold 3 ; mark a ; hold 1 ;"), make("hold 1 ;", cycle="hold 3 ; mark b ; hold 1 ;"))
        self.assert_touch(7, make("", cycle="hold 3 ; if store c 1 { mark a ; } put c 1 ; hold 1 ;"),
                          make("", cycle="hold 3 ; if store c 1 { mark b ; } put c 1 ; hold 1 ;"))


class TickZero(Touches):
    def test_a_plan(self):
        for plan in ("1 for 2", "2 for 2 , 0 for 1", "1 for 2 , 0 for 2", "1 for 1 , 1 for 1 , 0 for 1", "1 for 2 , 0 for 1 , 0 for 1"):
            items = f"resource r plan {plan} ;"
            self.assert_touch(0, make("hold 3 ;", "resource r plan 1 for 2 , 0 for 1 ;"), make("hold 3 ;", items))

    def test_a_start(self):
        items = "store c {} of 9 ; counter k {} of 9 ; belt b length 1 ;"
        elder = make("hold 3 ;", items.format(1, 1))
        self.assert_touch(0, elder, make("hold 3 ;", items.format(2, 1)))
        self.assert_touch(0, elder, make("hold 3 ;", items.format(1, 0)))
        self.assert_touch(None, elder, make("hold 3 ;", items.format(1, 1)))
        self.assert_touch(None, elder, make("hold 3 ;", "store c 1 of 5 ; counter k 1 of 5 ; belt b length 9 room 1 ;"))
        self.assert_touch(0, make("hold 3 ;", start=4), make("hold 3 ;", start=5))

    def test_an_empty_once_or_cycle(self):
        self.assert_touch(0, make("", start=5), make("mark a ;", start=5))
        self.assert_touch(0, make("mark a ;", start=5), make("", start=5))
        self.assert_touch(0, make("hold 9 ;", cycle=""), make("hold 9 ;", cycle="hold 1 ;"))
        self.assert_touch(0, make("hold 9 ;", cycle="hold 1 ;"), make("hold 9 ;", cycle=""))
        more = "process q at 9 {{ {} }} cycle {{ }}"
        self.assert_touch(0, make("hold 9 ;", more=more.format("")), make("hold 9 ;", more=more.format("hold 1 ;")))

    def test_no_ticks(self):
        self.assertIsNone(first_touch(make("hold 9 ;", start=1), make("hold 9 ;", start=2), ((), ()), 0))
        self.assertIsNone(first_touch(make("", start=1), make("mark a ;", start=1), ((), ()), 0))
        self.assertIsNone(first_touch(make("mark a ;"), make("mark b ;"), ((), ()), 0))

    def test_no_touch(self):
        for model in (make("hold 3 ; mark a ; draw s { at 0 { } at 1 { hold 1 ; } }"), let("model 2 streams { }")):
            self.assert_touch(None, model, model, tapes=((0, 1, 0), (1, 1)) if model[2] else ())


class Modes(Touches):
    def test_held(self):
        # p comes to its hold in tick 2; it is at it when tick 2 ends, and still in tick 4.
        elder, model = make("hold 2 ; hold 5 ; mark a ;"), make("hold 2 ; hold 4 ; mark a ;")
        self.assert_touch(2, elder, model)
        self.assertEqual(touches(elder, model, ((), ()), 9), [2, 3, 4, 5, 6, 7])

    def test_asking(self):
        items = "resource r plan 0 for 9 , 1 for 9 ;"
        elder = make("hold 2 ; use r rank 1 { hold 2 ; } mark a ;", items)
        model = make("hold 2 ; use r rank 1 { } mark a ;", items)
        self.assert_touch(2, elder, model)
        self.assertEqual(touches(elder, model, ((), ()), 12), [2, 3, 4, 5, 6, 7, 8, 9, 10, 11])

    def test_blocked(self):
        items = "store c 0 of 9 ; belt b length 2 ;"
        more = "process q at 5 { put c 1 ; } cycle { }"
        elder = make("hold 2 ; take c 1 ; mark a ;", items, more=more)
        self.assert_touch(2, elder, make("hold 2 ; take c 2 ; mark a ;", items, more=more))
        self.assert_touch(5, elder, make("hold 2 ; take c 1 ; mark b ;", items, more=more), 6)

    def test_broken(self):
        more = "process q at 3 { interrupt p ; end ; } cycle { }"
        elder = make("guard { hold 1 ; hold 9 ; } handle { mark a ; }", more=more)
        model = make("guard { hold 1 ; hold 8 ; } handle { mark a ; }", more=more)
        self.assert_touch(1, elder, model)
        # p moves ahead of q: with q first the run ends while p is broken at its place.
        text = """model 2 streams {{ process q at 3 {{ interrupt p ; end ; }} cycle {{ }}
            process p at 0 {{ guard {{ hold 1 ; hold {} ; }} handle {{ }} }} cycle {{ }} }}"""
        self.assert_touch(1, let(text.format(9)), let(text.format(8)), tapes=())
        self.assertEqual(touches(let(text.format(9)), let(text.format(8)), (), 6), [1, 2, 3, 4, 5])

    def test_a_process_that_is_done_is_at_no_statement(self):
        elder, model = make("hold 2 ; mark a ;", cycle=""), make("hold 2 ; mark b ;", cycle="")
        self.assertEqual(touches(elder, model, ((), ()), 9), [2])
        self.assert_touch(2, elder, model)

    def test_behind_a_move_within_a_tick(self):
        # In tick 2 p comes to the changed mark, and is past it when the tick ends.
        self.assert_touch(2, make("hold 2 ; add k 1 ; mark a ; add k 1 ; hold 2 ;"), make("hold 2 ; add k 1 ; mark b ; add k 1 ; hold 2 ;"))

    def test_the_second_process(self):
        more = "process q at 1 {{ hold 3 ; mark {} ; }} cycle {{ }}"
        self.assert_touch(4, make("hold 9 ;", more=more.format("a")), make("hold 9 ;", more=more.format("b")))

    def test_behind_the_end_of_the_run(self):
        more = "process q at 1 { end ; } cycle { }"
        self.assert_touch(None, make("hold 3 ; mark a ;", more=more), make("hold 3 ; mark b ;", more=more))


class DryTapes(unittest.TestCase):
    def assert_dry(self, elder, model, tapes, ticks):
        with self.assertRaises(Dry) as caught:
            first_touch(elder, model, tapes, ticks)
        self.assertEqual(caught.exception.name, touches(elder, model, tapes, ticks))

    def test_also_where_there_is_a_touch_ahead(self):
        text = "hold 1 ; mark {} ; hold 2 ; draw s {{ at 0 1 {{ }} }}"
        elder, model = make(text.format("a")), make(text.format("b"))
        self.assertEqual(first_touch(elder, model, ((), ()), 3), 1)
        self.assert_dry(elder, model, ((), ()), 4)
        self.assertEqual(first_touch(elder, model, ((1,), ()), 4), 1)

    def test_also_where_tick_0_is_a_touch(self):
        elder = make("hold 1 ; draw t { at 0 1 { } }", "store c 0 of 9 ;")
        model = make("hold 1 ; draw t { at 0 1 { } }", "store c 1 of 9 ;")
        self.assertEqual(first_touch(elder, model, ((), ()), 1), 0)
        self.assert_dry(elder, model, ((), ()), 2)
        self.assert_dry(elder, elder, ((), ()), 2)

    def test_the_digits_are_those_that_the_elder_model_reads(self):
        elder, model = make("hold 1 ; mark a ; hold 9 ;"), make("hold 1 ; draw s { at 0 1 { } } hold 9 ;")
        self.assertEqual(first_touch(elder, model, ((), ()), 5), 1)
        self.assert_dry(model, elder, ((), ()), 5)


class RandomModels(unittest.TestCase):
    def test_against_the_reference_and_the_runs(self):
        ticks, counts = 12, {}
        for seed in range(500):
            elder = random_model(seed)
            model = random_change(elder, seed)
            for _ in range(seed % 3):
                model = random_change(model, seed)
            self.assertTrue(is_changed(elder, model))
            tapes = random_tapes(elder, seed, 40)
            told = touches(elder, model, tapes, ticks)
            if isinstance(told, str):
                with self.assertRaises(Dry) as caught:
                    first_touch(elder, model, tapes, ticks)
                self.assertEqual(caught.exception.name, told)
                continue
            touch = first_touch(elder, model, tapes, ticks)
            self.assertEqual(touch, told[0] if told else None, seed)
            counts[touch] = counts.get(touch, 0) + 1
            run, other = PlainRun(elder, tapes), PlainRun(model, tapes)
            for _ in range(ticks if touch is None else touch):
                self.assertEqual(run.snapshot, other.snapshot)
                self.assertEqual(run.tick(), other.tick())
            if touch != 0:
                self.assertEqual(run.snapshot, other.snapshot)
        self.assertGreater(len(counts), 5)


if __name__ == "__main__":
    unittest.main()
