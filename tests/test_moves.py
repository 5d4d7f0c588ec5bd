"""Points [12] to [14]: who can move, the moves with their events, the passing of time."""

import unittest

from helpers import EXAMPLE, let, line, lines, one, play

from meantrace.errors import Dry
from meantrace.moves import moved, next_mover, passed
from meantrace.plainruns import PlainRun
from meantrace.states import start_state


class Beginnings(unittest.TestCase):
    def test_start(self):
        text = "model 2 streams { process p at 2 { mark a ; } cycle { hold 9 ; } }"
        self.assertEqual(play(text, 4), ["", "", "p wake, p mark a, p hold 9", ""])

    def test_hold_and_wake(self):
        text = one("hold 1 ; hold 2 ; mark a ;")
        self.assertEqual(play(text, 4), [
            "p wake, p hold 1", "p wake, p hold 2", "", "p wake, p mark a, p hold 9",
        ])

    def test_the_cycle_comes_again(self):
        text = "model 2 streams { process p at 0 { } cycle { mark a ; hold 2 ; mark b ; } }"
        self.assertEqual(play(text, 5), [
            "p wake, p mark a, p hold 2", "", "p wake, p mark b, p mark a, p hold 2", "",
            "p wake, p mark b, p mark a, p hold 2",
        ])

    def test_an_empty_once(self):
        self.assertEqual(play(one(""), 2), ["p wake, p hold 9", ""])

    def test_an_empty_cycle_makes_done(self):
        text = "model 2 streams { process p at 0 { hold 1 ; mark a ; } cycle { } }"
        run = PlainRun.of(text, ())
        self.assertEqual(lines(run.tick()), "p wake, p hold 1")
        self.assertEqual(lines(run.tick()), "p wake, p mark a")
        self.assertEqual(run.state[2], (("done", 0, ()),))
        self.assertEqual(run.tick(), ())

    def test_both_empty(self):
        text = "model 2 streams { process p at 1 { } cycle { } }"
        self.assertEqual(play(text, 3), ["", "p wake", ""])

    def test_whole_events(self):
        run = PlainRun.of(one("loop 2 { } mark a ; hold 3 ;"), ())
        self.assertEqual(run.tick(), (
            (0, "p", "wake", "", 0), (0, "p", "loop", "", 2), (0, "p", "mark", "a", 0),
            (0, "p", "hold", "", 3),
        ))
        self.assertEqual([run.tick() for _ in range(3)][2], (
            (3, "p", "wake", "", 0), (3, "p", "hold", "", 9),
        ))

    def test_the_least_number_moves_first(self):
        text = """model 2 streams { process q at 0 { mark a ; mark b ; } cycle { }
            process p at 0 { mark c ; } cycle { } }"""
        self.assertEqual(play(text, 1), ["q wake, q mark a, q mark b, p wake, p mark c"])


class Bodies(unittest.TestCase):
    def test_loops(self):
        self.assertEqual(play(one("loop 3 { mark a ; }"), 1), [
            "p wake, p loop 3, p mark a, p mark a, p mark a, p hold 9",
        ])
        self.assertEqual(play(one("loop 2 { hold 1 ; }"), 3), [
            "p wake, p loop 2, p hold 1", "p wake, p hold 1", "p wake, p hold 9",
        ])
        self.assertEqual(play(one("loop 2 { loop 2 { mark a ; } mark b ; }"), 1), [
            "p wake, p loop 2, p loop 2, p mark a, p mark a, p mark b, "
            "p loop 2, p mark a, p mark a, p mark b, p hold 9",
        ])

    def test_empty_loops_end_in_the_move(self):
        run = PlainRun.of(one("loop 9 { } mark a ;"), ())
        model, state = run.model, run.state
        _, state = moved(model, state, 0, None)
        events, state = moved(model, state, 0, None)
        self.assertEqual(lines(events), "p loop 9")
        self.assertEqual(state[2], (("ready", 0, ((0, 0, 0), (1, -1, 0))),))

    def test_loops_whose_bodies_are_empty_loops(self):
        self.assertEqual(play(one("loop 3 { loop 9 { } }"), 1), [
            "p wake, p loop 3, p loop 9, p loop 9, p loop 9, p hold 9",
        ])

    def test_if(self):
        items = "counter k 2 of 5 ;"
        self.assertEqual(play(one("if counter k 2 { mark a ; } else { mark b ; }", items), 1), [
            "p wake, p test k 1, p mark a, p hold 9",
        ])
        self.assertEqual(play(one("if counter k 3 { mark a ; } else { mark b ; }", items), 1), [
            "p wake, p test k, p mark b, p hold 9",
        ])
        self.assertEqual(play(one("if counter k 3 { mark a ; } mark c ;", items), 1), [
            "p wake, p test k, p mark c, p hold 9",
        ])
        self.assertEqual(play(one("if counter k 0 { } else { mark b ; } mark c ;", items), 1), [
            "p wake, p test k 1, p mark c, p hold 9",
        ])

    def test_draw(self):
        text = """model 3 streams s t { process p at 0 { } cycle {
            draw s { at 2 0 { mark a ; } at 1 { } } draw t { at 0 1 { } at 2 { mark b ; } } hold 1 ; } }"""
        self.assertEqual(play(text, 3, (0, 1, 2), (2, 0, 1)), [
            "p wake, p draw s, p mark a, p draw t 2, p mark b, p hold 1",
            "p wake, p draw s 1, p draw t, p hold 1", "p wake, p draw s 2, p mark a, p draw t 1, p hold 1",
        ])

    def test_processes_read_one_tape(self):
        body = "cycle { draw s { at 0 { mark a ; } at 1 { mark b ; } } hold 1 ; }"
        text = f"model 2 streams s {{ process p at 0 {{ }} {body} process q at 0 {{ }} {body} }}"
        self.assertEqual(play(text, 2, (0, 1, 1, 0)), [
            "p wake, p draw s, p mark a, p hold 1, q wake, q draw s 1, q mark b, q hold 1",
            "p wake, p draw s 1, p mark b, p hold 1, q wake, q draw s, q mark a, q hold 1",
        ])

    def test_guard_without_a_break(self):
        self.assertEqual(play(one("guard { mark a ; } handle { mark b ; } mark c ;"), 1), [
            "p wake, p guard, p mark a, p mark c, p hold 9",
        ])
        self.assertEqual(play(one("guard { } handle { mark b ; } mark c ;"), 1), [
            "p wake, p guard, p mark c, p hold 9",
        ])

    def test_several_bodies_end_in_one_move(self):
        text = one("loop 2 { use r rank 1 { guard { if free r 0 { mark a ; } } handle { } } }",
                   "resource r plan 1 for 9 ;")
        model = let(text)
        state, told = start_state(model), []
        for _ in range(13):
            events, state = moved(model, state, 0, None)
            told.append(lines(events))
        turn = ["p ask r 1", "p get r", "p guard", "p test r 1", "p mark a, p give r"]
        self.assertEqual(told, ["p wake", "p loop 2", *turn, *turn, "p hold 9"])

    def test_the_place_behind_a_move_that_ends_several_bodies(self):
        text = """model 2 streams s { resource r plan 2 for 9 ; process p at 0 {
            use r rank 0 { use r rank 0 { draw s { at 0 { } at 1 { mark a ; } } } } } cycle { hold 1 ; } }"""
        model = let(text)
        state = start_state(model)
        for _ in range(5):
            _, state = moved(model, state, 0, None)
        self.assertEqual(state[2][0][2], ((0, 0, 0), (0, 0, 0), (0, 0, 0), (0, -1, 0)))
        events, after = moved(model, state, 0, 0)
        self.assertEqual(lines(events), "p draw s, p give r, p give r")
        self.assertEqual(after[2], (("ready", 0, ((0, 1, 0), (0, -1, 0))),))
        events, after = moved(model, state, 0, 1)
        self.assertEqual(lines(events), "p draw s 1")
        place = ((0, 0, 0), (0, 0, 0), (0, 0, 0), (0, 1, 0), (0, -1, 0))
        self.assertEqual(after[2], (("ready", 0, place),))


class Counters(unittest.TestCase):
    def test_add_and_drop_tell_the_new_value(self):
        text = one("add k 2 ; add k 9 ; add k 1 ; drop k 3 ; drop k 9 ; drop k 1 ;", "counter k 1 of 5 ;")
        self.assertEqual(play(text, 1), [
            "p wake, p add k 3, p add k 5, p add k 5, p drop k 2, p drop k, p drop k, p hold 9",
        ])

    def test_state(self):
        run = PlainRun.of(one("add m 2 ;", "counter k 1 of 5 ; counter m 0 of 9 ;"), ())
        run.tick()
        self.assertEqual(run.state[6], (1, 2))


class Stores(unittest.TestCase):
    def test_several_parts(self):
        items = "store c 0 of 5 ; store d 3 of 3 ;"
        text = one("put c 4 ; take d 2 , c 1 ; put c 2 , d 1 ;", items)
        run = PlainRun.of(text, ())
        self.assertEqual(lines(run.tick()), (
            "p wake, p put c 4, p take d 2, p take c 1, p put c 2, p put d 1, p hold 9"
        ))
        self.assertEqual(run.state[4], (5, 2))

    def test_a_put_without_room_waits(self):
        text = """model 2 streams { store c 4 of 5 ; process p at 0 { put c 2 ; mark a ; } cycle { }
            process q at 2 { take c 1 ; } cycle { } }"""
        run = PlainRun.of(text, ())
        self.assertEqual([lines(run.tick()) for _ in range(4)], [
            "p wake", "", "q wake, q take c 1, p put c 2, p mark a", "",
        ])

    def test_a_take_without_things_waits(self):
        text = """model 2 streams { store c 1 of 5 ; process p at 0 { take c 2 ; mark a ; } cycle { }
            process q at 1 { put c 1 ; } cycle { } }"""
        self.assertEqual(play(text, 3), ["p wake", "q wake, q put c 1, p take c 2, p mark a", ""])

    def test_one_part_that_cannot_is_enough(self):
        for word, items in (
            ("put", "store c 0 of 9 ; store d 3 of 3 ;"), ("take", "store c 9 of 9 ; store d 0 of 3 ;"),
        ):
            for parts in ("c 1 , d 1", "d 1 , c 1"):
                run = PlainRun.of(one(f"{word} {parts} ;", items), ())
                levels = run.state[4]
                self.assertEqual(lines(run.tick()), "p wake")
                self.assertEqual(run.state[4], levels)
                self.assertEqual(run.state[2][0][0], "ready")
                self.assertIsNone(next_mover(run.model, run.state))

    def test_exactly_full_and_exactly_empty(self):
        self.assertEqual(play(one("put c 5 ; take c 5 ; put c 1 ;", "store c 0 of 5 ;"), 1), [
            "p wake, p put c 5, p take c 5, p put c 1, p hold 9",
        ])


class Belts(unittest.TestCase):
    def test_a_thing_is_unloaded_when_its_length_is_over(self):
        text = """model 2 streams { belt b length 2 ; process p at 0 { unload b ; mark a ; } cycle { }
            process q at 1 { load b ; } cycle { } }"""
        run = PlainRun.of(text, ())
        told, belts = [], []
        for _ in range(4):
            told.append(lines(run.tick()))
            belts.append(run.state[5])
        self.assertEqual(told, ["p wake", "q wake, q load b", "", "p unload b, p mark a"])
        self.assertEqual(belts, [((),), ((1,),), ((0,),), ((),)])

    def test_things_stay_at_0(self):
        run = PlainRun.of(one("load b ; hold 1 ; load b ;", "belt b length 2 ;"), ())
        belts = []
        for _ in range(5):
            run.tick()
            belts.append(run.state[5][0])
        self.assertEqual(belts, [(1,), (0, 1), (0, 0), (0, 0), (0, 0)])

    def test_room(self):
        text = """model 2 streams { belt b length 1 room 2 ;
            process p at 0 { load b ; load b ; load b ; mark a ; } cycle { }
            process q at 2 { unload b ; hold 1 ; unload b ; unload b ; } cycle { } }"""
        self.assertEqual(play(text, 5), [
            "p wake, p load b, p load b", "", "q wake, q unload b, p load b, p mark a, q hold 1",
            "q wake, q unload b, q unload b", "",
        ])

    def test_without_room_there_is_no_end(self):
        run = PlainRun.of(one("loop 9 { load b ; } loop 9 { load b ; }", "belt b length 9 ;"), ())
        run.tick()
        self.assertEqual(run.state[5], ((8,) * 18,))

    def test_the_first_thing_leaves(self):
        text = one("load b ; hold 1 ; load b ; unload b ;", "belt b length 1 ;")
        run = PlainRun.of(text, ())
        self.assertEqual(lines(run.tick()), "p wake, p load b, p hold 1")
        self.assertEqual(lines(run.tick()), "p wake, p load b, p unload b, p hold 9")
        self.assertEqual(run.state[5], ((0,),))


class Resources(unittest.TestCase):
    def test_a_unit_that_is_free_is_got_at_once(self):
        self.assertEqual(play(one("use r rank 3 { hold 1 ; }", "resource r plan 1 for 9 ;"), 2), [
            "p wake, p ask r 3, p get r, p hold 1", "p wake, p give r, p hold 9",
        ])

    def test_an_empty_body_gives_back_in_the_same_move(self):
        self.assertEqual(play(one("use r rank 3 { }", "resource r plan 1 for 9 ;"), 1), [
            "p wake, p ask r 3, p get r, p give r, p hold 9",
        ])

    def test_waiting_without_patience(self):
        text = """model 2 streams { resource r plan 1 for 9 ;
            process p at 0 { use r rank 0 { hold 3 ; } } cycle { }
            process q at 0 { use r rank 0 { mark a ; } } cycle { } }"""
        run = PlainRun.of(text, ())
        self.assertEqual(lines(run.tick()), "p wake, p ask r, p get r, p hold 3, q wake, q ask r")
        self.assertEqual(run.state[2][1], ("asking", -1, ((0, 0, 0), (0, -1, 0))))
        self.assertEqual(run.state[3], (((0, 1),),))
        self.assertEqual([lines(run.tick()) for _ in range(3)], [
            "", "", "p wake, p give r, q get r, q mark a, q give r",
        ])

    def test_leaving_by_patience(self):
        text = one("use r rank 0 patience 2 { mark a ; } else { mark b ; }", "resource r plan 0 for 1 ;")
        run = PlainRun.of(text, ())
        self.assertEqual(lines(run.tick()), "p wake, p ask r")
        self.assertEqual(run.state[2][0][:2], ("asking", 1))
        self.assertEqual(lines(run.tick()), "")
        self.assertEqual(lines(run.tick()), "p leave r, p mark b, p hold 9")
        self.assertEqual(run.state[3], ((),))

    def test_leaving_into_an_empty_body(self):
        text = one("use r rank 0 patience 1 { mark a ; } else { }", "resource r plan 0 for 1 ;")
        self.assertEqual(play(text, 2), ["p wake, p ask r", "p leave r, p hold 9"])

    def test_a_unit_that_is_free_at_the_end_of_patience_is_got(self):
        text = one("use r rank 0 patience 2 { mark a ; } else { }", "resource r plan 0 for 2 , 1 for 9 ;")
        self.assertEqual(play(text, 3), ["p wake, p ask r", "", "p get r, p mark a, p give r, p hold 9"])

    def test_at_the_end_of_patience_the_least_number_moves_first(self):
        # q gives back later in the tick in which the patience of p ends.
        text = """model 2 streams { resource r plan 1 for 9 ;
            process p at 1 { use r rank 0 patience 2 { } else { mark b ; } } cycle { }
            process q at 0 { use r rank 0 { hold 3 ; } } cycle { } }"""
        self.assertEqual(play(text, 4)[3], "p leave r, p mark b, q wake, q give r")

    def test_one_that_is_not_first_leaves_though_a_unit_is_free(self):
        # At tick 2 a unit comes free, but p, whose patience is over, stands behind q.
        text = """model 2 streams { resource r plan 0 for 2 , 1 for 9 ;
            process p at 0 { use r rank 5 patience 2 { } else { mark b ; } } cycle { }
            process q at 1 { use r rank 1 { mark c ; } } cycle { } }"""
        self.assertEqual(play(text, 3), [
            "p wake, p ask r 5", "q wake, q ask r 1",
            "p leave r, p mark b, q get r, q mark c, q give r",
        ])

    def test_queues_by_rank_and_then_by_coming(self):
        head = "model 2 streams { resource r plan 0 for 1 ;"
        rows = (("p", 2), ("q", 1), ("w", 2), ("v", 0), ("u", 1), ("x", 9))
        text = head + "".join(f" process {n} at 0 {{ use r rank {k} {{ }} }} cycle {{ }}" for n, k in rows)
        run = PlainRun.of(text + " }", ())
        run.tick()
        self.assertEqual(run.state[3], (((0, 3), (1, 1), (1, 4), (2, 0), (2, 2), (9, 5)),))

    def test_only_the_first_of_the_queue_is_served(self):
        text = """model 2 streams { resource r plan 0 for 1 , 1 for 1 , 0 for 1 , 2 for 1 ;
            process p at 0 { use r rank 2 { hold 9 ; } } cycle { }
            process q at 0 { use r rank 1 { hold 9 ; } } cycle { }
            process w at 0 { use r rank 1 { hold 9 ; } } cycle { } }"""
        self.assertEqual(play(text, 4), [
            "p wake, p ask r 2, q wake, q ask r 1, w wake, w ask r 1", "q get r, q hold 9", "",
            "w get r, w hold 9",
        ])

    def test_two_units(self):
        text = """model 2 streams { resource r plan 2 for 9 ;
            process p at 0 { use r rank 0 { hold 1 ; } } cycle { }
            process q at 0 { use r rank 0 { hold 2 ; } } cycle { }
            process w at 0 { use r rank 0 { hold 1 ; } } cycle { } }"""
        self.assertEqual(play(text, 3), [
            "p wake, p ask r, p get r, p hold 1, q wake, q ask r, q get r, q hold 2, w wake, w ask r",
            "p wake, p give r, w get r, w hold 1", "q wake, q give r, w wake, w give r",
        ])

    def test_a_process_that_has_the_unit_asks_again(self):
        text = one("use r rank 0 { use r rank 0 patience 1 { } else { mark b ; } }",
                   "resource r plan 1 for 9 ;")
        self.assertEqual(play(text, 2), [
            "p wake, p ask r, p get r, p ask r", "p leave r, p mark b, p give r, p hold 9",
        ])

    def test_plans_begin_anew(self):
        text = """model 2 streams { resource r plan 1 for 1 , 0 for 2 ;
            process p at 0 { } cycle { if free r 1 { mark a ; } hold 1 ; } }"""
        run = PlainRun.of(text, ())
        phases = []
        shown = []
        for _ in range(7):
            phases.append(run.state[1])
            shown.append("p mark a" in [line(event) for event in run.tick()])
        self.assertEqual(phases, [(0,), (1,), (2,), (0,), (1,), (2,), (0,)])
        self.assertEqual(shown, [True, False, False, True, False, False, True])

    def test_fewer_units_than_are_in_use(self):
        text = """model 2 streams { resource r plan 2 for 1 , 1 for 9 ;
            process p at 0 { use r rank 0 { hold 2 ; } } cycle { }
            process q at 0 { use r rank 0 { hold 3 ; } } cycle { }
            process w at 1 { if free r 0 { } else { mark a ; } use r rank 0 { mark b ; } } cycle { } }"""
        self.assertEqual(play(text, 4)[1:], [
            "w wake, w test r, w mark a, w ask r", "p wake, p give r",
            "q wake, q give r, w get r, w mark b, w give r",
        ])


class Gauges(unittest.TestCase):
    def test_values_of_an_if(self):
        text = """model 2 streams { resource r plan 1 for 9 ; store c 2 of 5 ; belt b length 1 ;
            process p at 0 { load b ; load b ; use r rank 0 { hold 9 ; } } cycle { }
            process q at 0 { use r rank 0 { hold 9 ; } } cycle { }
            process w at 0 { if queue r 1 { } if queue r 2 { } if store c 2 { } if store c 3 { }
            if belt b 2 { } if belt b 3 { } if free r 0 { } if free r 1 { } } cycle { } }"""
        self.assertEqual(play(text, 1)[0].split("q ask r, ")[1], (
            "w wake, w test r 1, w test r, w test c 1, w test c, w test b 1, w test b, "
            "w test r 1, w test r"
        ))


class Interrupts(unittest.TestCase):
    def test_a_guarded_process_that_holds(self):
        text = """model 2 streams {
            process p at 0 { guard { hold 5 ; mark a ; } handle { mark b ; } mark c ; } cycle { }
            process q at 1 { interrupt p ; } cycle { } }"""
        self.assertEqual(play(text, 2), [
            "p wake, p guard, p hold 5", "q wake, q interrupt p 1, p broken, p mark b, p mark c",
        ])

    def test_the_point_of_a_broken_process(self):
        text = """model 2 streams {
            process p at 0 { guard { hold 5 ; } handle { } } cycle { }
            process q at 0 { interrupt p ; mark a ; } cycle { } }"""
        model = let(text)
        state = start_state(model)
        for _ in range(4):
            _, state = moved(model, state, 0, None)
        events, state = moved(model, state, 7, None)
        self.assertEqual(events, ((7, "q", "interrupt", "p", 1),))
        self.assertEqual(state[2][0], ("broken", 0, ((0, 0, 0), (0, 0, 0), (0, -1, 0))))
        self.assertEqual(next_mover(model, state), 0)

    def test_an_unguarded_process(self):
        text = """model 2 streams { process p at 0 { hold 5 ; } cycle { }
            process q at 1 { interrupt p ; mark a ; } cycle { } }"""
        self.assertEqual(play(text, 2)[1], "q wake, q interrupt p, q mark a")

    def test_a_handler_is_not_guarded(self):
        text = """model 2 streams { process p at 0 { guard { hold 5 ; } handle { hold 5 ; } } cycle { }
            process q at 1 { interrupt p ; hold 1 ; interrupt p ; } cycle { } }"""
        self.assertEqual(play(text, 3)[1:], [
            "q wake, q interrupt p 1, p broken, p hold 5, q hold 1", "q wake, q interrupt p",
        ])

    def test_a_process_behind_or_ahead_of_its_guard(self):
        text = """model 2 streams { process p at 0 { hold 1 ; guard { } handle { } hold 5 ; } cycle { }
            process q at 0 { interrupt p ; hold 3 ; interrupt p ; } cycle { } }"""
        self.assertEqual(play(text, 4), [
            "p wake, p hold 1, q wake, q interrupt p, q hold 3", "p wake, p guard, p hold 5", "",
            "q wake, q interrupt p",
        ])

    def test_a_process_that_has_not_begun(self):
        text = """model 2 streams { process p at 5 { guard { hold 5 ; } handle { } } cycle { }
            process q at 0 { interrupt p ; } cycle { } }"""
        self.assertEqual(play(text, 1), ["q wake, q interrupt p"])

    def test_a_broken_process(self):
        text = """model 2 streams {
            process q at 0 { } cycle { interrupt p ; interrupt p ; hold 1 ; }
            process p at 0 { guard { hold 5 ; } handle { mark b ; } } cycle { } }"""
        self.assertEqual(play(text, 2), [
            "q wake, q interrupt p, q interrupt p, q hold 1, p wake, p guard, p hold 5",
            "q wake, q interrupt p 1, q interrupt p, q hold 1, p broken, p mark b",
        ])

    def test_a_done_process(self):
        text = """model 2 streams { process p at 0 { guard { stop ; } handle { } } cycle { }
            process q at 0 { interrupt p ; } cycle { } }"""
        self.assertEqual(play(text, 1), ["p wake, p guard, p stop, q wake, q interrupt p"])

    def test_the_process_itself(self):
        self.assertEqual(play(one("interrupt p ; mark a ;"), 1), ["p wake, p interrupt p, p mark a, p hold 9"])
        text = one("guard { interrupt p ; mark a ; } handle { mark b ; }")
        self.assertEqual(play(text, 1), ["p wake, p guard, p interrupt p 1, p broken, p mark b, p hold 9"])
        model = let(text)
        state = start_state(model)
        for _ in range(3):
            _, state = moved(model, state, 0, None)
        self.assertEqual(state[2], (("broken", 0, ((0, 0, 0), (0, 0, 0), (0, -1, 0))),))

    def test_a_ready_process_that_cannot_move(self):
        text = """model 2 streams { store c 0 of 5 ;
            process p at 0 { guard { take c 1 ; } handle { mark b ; } } cycle { }
            process q at 1 { interrupt p ; } cycle { } }"""
        self.assertEqual(play(text, 2), [
            "p wake, p guard", "q wake, q interrupt p 1, p broken, p mark b",
        ])

    def test_one_that_asks_leaves_the_queue(self):
        text = """model 2 streams { resource r plan 0 for 1 ;
            process p at 0 { guard { use r rank 1 { } } handle { mark b ; } } cycle { }
            process w at 0 { use r rank 0 patience 9 { } else { } } cycle { }
            process q at 1 { interrupt p ; hold 1 ; } cycle { } }"""
        run = PlainRun.of(text, ())
        run.tick()
        self.assertEqual(run.state[3], (((0, 1), (1, 0)),))
        self.assertEqual(lines(run.tick()), "q wake, q interrupt p 1, p broken, p mark b, q hold 1")
        self.assertEqual(run.state[3], (((0, 1),),))

    def test_the_queue_goes_on_when_the_first_one_is_broken(self):
        # p waits first, but is broken in the tick in which the unit comes; so w gets it.
        text = """model 2 streams { resource r plan 0 for 1 , 1 for 9 ;
            process q at 0 { hold 1 ; interrupt p ; } cycle { }
            process p at 0 { guard { use r rank 0 { } } handle { } mark b ; } cycle { }
            process w at 0 { use r rank 1 { mark c ; } } cycle { } }"""
        self.assertEqual(play(text, 2)[1], (
            "q wake, q interrupt p 1, p broken, p mark b, w get r, w mark c, w give r"
        ))

    def test_units_are_given_back_innermost_first(self):
        text = """model 2 streams { resource r plan 2 for 9 ; resource s plan 1 for 9 ;
            resource t plan 1 for 9 ;
            process p at 0 { use t rank 0 { guard { use r rank 0 { use s rank 0 { hold 9 ; } } }
            handle { mark b ; } } } cycle { }
            process q at 1 { interrupt p ; } cycle { } }"""
        self.assertEqual(play(text, 2)[1], (
            "q wake, q interrupt p 1, p broken, p give s, p give r, p mark b, p give t"
        ))

    def test_guards_inside_of_guards(self):
        text = """model 2 streams {
            process p at 0 { guard { guard { hold 9 ; } handle { mark a ; hold 9 ; } mark b ; }
            handle { mark c ; hold 9 ; } mark d ; } cycle { }
            process q at 1 { interrupt p ; hold 1 ; interrupt p ; hold 1 ; interrupt p ; } cycle { } }"""
        self.assertEqual(play(text, 4)[1:], [
            "q wake, q interrupt p 1, p broken, p mark a, p hold 9, q hold 1",
            "q wake, q interrupt p 1, p broken, p mark c, p hold 9, q hold 1", "q wake, q interrupt p",
        ])

    def test_an_empty_handler_ends_at_once(self):
        text = """model 2 streams { resource r plan 1 for 9 ;
            process p at 0 { use r rank 0 { loop 2 { guard { hold 9 ; } handle { } } } } cycle { }
            process q at 1 { interrupt p ; hold 1 ; interrupt p ; } cycle { } }"""
        self.assertEqual(play(text, 3)[1:], [
            "q wake, q interrupt p 1, p broken, p guard, p hold 9, q hold 1",
            "q wake, q interrupt p 1, p broken, p give r",
        ])

    def test_a_break_leaves_loops_and_arms(self):
        text = """model 2 streams s { process p at 0 {
            guard { loop 9 { draw s { at 0 { hold 9 ; } at 1 { } } } } handle { } mark b ; } cycle { }
            process q at 1 { interrupt p ; } cycle { } }"""
        self.assertEqual(play(text, 2, (1, 0)), [
            "p wake, p guard, p loop 9, p draw s 1, p draw s, p hold 9",
            "q wake, q interrupt p 1, p broken, p mark b",
        ])

    def test_a_break_after_the_unit_is_got(self):
        text = """model 2 streams { resource r plan 1 for 9 ;
            process p at 0 { guard { use r rank 0 { hold 9 ; } } handle { } } cycle { }
            process w at 0 { use r rank 0 { mark c ; } } cycle { }
            process q at 1 { interrupt p ; } cycle { } }"""
        self.assertEqual(play(text, 2)[1], (
            "q wake, q interrupt p 1, p broken, p give r, w get r, w mark c, w give r"
        ))


class Ends(unittest.TestCase):
    def test_stop(self):
        text = """model 2 streams { resource r plan 1 for 9 ; resource s plan 1 for 9 ;
            process p at 0 { use r rank 0 { use s rank 0 { guard { stop ; mark a ; } handle { } } } }
            cycle { hold 1 ; } process q at 0 { use r rank 0 { mark b ; } } cycle { } }"""
        run = PlainRun.of(text, ())
        self.assertEqual(lines(run.tick()), (
            "p wake, p ask r, p get r, p ask s, p get s, p guard, p stop, p give s, p give r, "
            "q wake, q ask r, q get r, q mark b, q give r"
        ))
        self.assertEqual(run.state[2], (("done", 0, ()), ("done", 0, ())))
        self.assertEqual(run.tick(), ())

    def test_stop_in_a_cycle(self):
        text = "model 2 streams { process p at 0 { } cycle { mark a ; stop ; } }"
        self.assertEqual(play(text, 2), ["p wake, p mark a, p stop", ""])

    def test_end(self):
        text = """model 2 streams { resource r plan 1 for 1 , 0 for 1 ; belt b length 5 ;
            process p at 0 { load b ; hold 1 ; end ; mark a ; } cycle { hold 1 ; }
            process q at 0 { hold 1 ; mark b ; } cycle { } process w at 0 { hold 5 ; } cycle { } }"""
        run = PlainRun.of(text, ())
        run.tick()
        self.assertEqual(lines(run.tick()), "p wake, p end")
        state = (
            1, (1,), (("ready", 0, ((0, 0, 0), (2, -1, 0))), ("held", 0, ((0, 0, 0), (0, -1, 0))),
                      ("held", 4, ((0, 0, 0), (0, -1, 0)))), ((),), (), ((4,),), (),
        )
        self.assertEqual(run.snapshot, (2, (), state))
        self.assertEqual(run.tick(), ())
        self.assertEqual(run.snapshot, (3, (), state))
        self.assertIsNone(next_mover(run.model, state))
        self.assertEqual(passed(run.model, state), state)


class Single(unittest.TestCase):
    def test_next_mover(self):
        text = "model 2 streams { process p at 1 { } cycle { } process q at 0 { } cycle { } }"
        model = let(text)
        state = start_state(model)
        self.assertEqual(next_mover(model, state), 1)
        _, state = moved(model, state, 0, None)
        self.assertIsNone(next_mover(model, state))
        self.assertEqual(next_mover(model, passed(model, state)), 0)
        self.assertIsNone(next_mover(("model", 2, (), (), ()), (0, (), (), (), (), (), ())))

    def test_digits(self):
        state = start_state(EXAMPLE)
        # A move that reads nothing does not look at the digit.
        self.assertEqual(moved(EXAMPLE, state, 3, 1), moved(EXAMPLE, state, 3, None))
        events, state = moved(EXAMPLE, state, 3, None)
        self.assertEqual(events, ((3, "p", "wake", "", 0),))
        for _ in range(2):
            with self.assertRaises(Dry) as caught:
                moved(EXAMPLE, state, 3, None)
            self.assertEqual(caught.exception.name, "s")
        events, after = moved(EXAMPLE, state, 3, 1)
        self.assertEqual(events, ((3, "p", "draw", "s", 1),))
        self.assertEqual(after[2], (("ready", 0, ((0, 1, 0), (1, -1, 0))),))
        self.assertEqual(moved(EXAMPLE, state, 3, 0)[0], ((3, "p", "draw", "s", 0),))

    def test_the_passing_of_time(self):
        text = """model 2 streams { resource r plan 0 for 2 , 1 for 1 ; belt b length 2 ;
            process p at 0 { load b ; use r rank 0 patience 3 { } else { } } cycle { }
            process q at 0 { use r rank 0 { } } cycle { } process w at 3 { } cycle { } }"""
        model = let(text)
        state = start_state(model)
        while next_mover(model, state) is not None:
            _, state = moved(model, state, 0, None)
        left = [point[1] for point in state[2]]
        self.assertEqual((state[1], left, state[5]), ((0,), [3, -1, 3], ((2,),)))
        state = passed(model, state)
        left = [point[1] for point in state[2]]
        self.assertEqual((state[1], left, state[5]), ((1,), [2, -1, 2], ((1,),)))
        state = passed(model, state)
        left = [point[1] for point in state[2]]
        self.assertEqual((state[1], left, state[5]), ((2,), [1, -1, 1], ((0,),)))


if __name__ == "__main__":
    unittest.main()
