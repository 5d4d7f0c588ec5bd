"""Point [28]: models that are cut into houses."""

import itertools
import unittest

from helpers import EXAMPLE, let
from random_models import random_houses

from meantrace.ahead import AheadRun
from meantrace.checks import check
from meantrace.errors import Split
from meantrace.guesses import GuessRun
from meantrace.houses import house_models, links_of
from meantrace.renewing import records

ITEMS = """resource r plan 1 for 9 ; store c 0 of 9 ; belt b length 3 ; belt e length 1 room 2 ; belt f length 4 ;
    counter k 0 of 9 ;"""


def cut(*bodies, items=ITEMS, streams="s t"):
    """A model with one process for each body, called p, q, w, .."""
    rows = [f"process {name} at 0 {{ {body} }} cycle {{ }}" for name, body in zip("pqwvxy", bodies)]
    return let(f"model 2 streams {streams} {{ {items} {' '.join(rows)} }}")


class Houses(unittest.TestCase):
    def assert_split(self, name, model, houses):
        calls = [lambda: house_models(model, houses), lambda: links_of(model, houses),
                 lambda: AheadRun(model, houses, ((), ())), lambda: GuessRun(model, houses, ((), ())),
                 lambda: records(model, houses, ((), ()), 0)]
        for call in calls:
            with self.assertRaises(Split) as caught:
                call()
            self.assertEqual(caught.exception.name, name)

    def assert_links(self, links, model, houses):
        self.assertEqual(links_of(model, houses), links)
        self.assertEqual(len(house_models(model, houses)), max(houses) + 1)


class Models(Houses):
    def test_the_model_of_a_house(self):
        model = cut("load b ;", "unload b ; mark a ;", "mark a ;", "hold 1 ;")
        word, base, streams, items, (p, q, w, v) = model
        self.assertEqual(house_models(model, (1, 0, 1, 2)), (
            (word, base, streams, items, (q,)), (word, base, streams, items, (p, w)), (word, base, streams, items, (v,)),
        ))
        self.assertEqual(house_models(model, (0, 1, 1, 1)), (
            (word, base, streams, items, (p,)), (word, base, streams, items, (q, w, v)),
        ))
        self.assertEqual(house_models(EXAMPLE, (0,)), (EXAMPLE,))

    def test_names_that_no_statement_names(self):
        model = cut("hold 1 ;", "hold 1 ;", "")
        for houses in ((0, 0, 0), (0, 1, 2), (2, 0, 1), (1, 0, 1)):
            self.assert_links((), model, houses)

    def test_a_mark_names_nothing(self):
        model = cut("mark s ; mark r ; mark p ; mark b ;", "mark s ; mark r ; mark p ; mark b ;")
        self.assert_links((), model, (0, 1))

    def test_models_of_houses_are_let(self):
        for seed in range(100):
            model, houses = random_houses(seed)
            for part in house_models(model, houses):
                check(part)


class Links(Houses):
    def test_links(self):
        model = cut("load f ; load b ;", "unload b ; load b ;", "unload f ;")
        self.assert_split("b", model, (0, 1, 1))
        model = cut("load f ; load b ;", "unload b ;", "unload f ;")
        self.assert_links((("b", 3, 0, 1), ("f", 4, 0, 2)), model, (0, 1, 2))
        self.assert_links((("b", 3, 2, 0), ("f", 4, 2, 1)), model, (2, 0, 1))
        self.assert_links((("b", 3, 0, 1), ("f", 4, 0, 1)), model, (0, 1, 1))
        self.assert_links((("f", 4, 0, 1),), model, (0, 0, 1))
        self.assert_links((), model, (0, 0, 0))

    def test_several_processes_load_and_unload(self):
        model = cut("load b ;", "unload b ;", "load b ;", "unload b ; guard { } handle { unload b ; }")
        self.assert_links((("b", 3, 1, 0),), model, (1, 0, 1, 0))
        self.assert_split("b", model, (0, 1, 1, 0))
        self.assert_split("b", model, (0, 1, 0, 0))
        self.assert_split("b", model, (0, 1, 2, 1))
        self.assert_split("b", model, (0, 1, 0, 2))

    def test_loaded_in_two_houses(self):
        self.assert_split("b", cut("load b ;", "load b ;"), (0, 1))
        self.assert_links((), cut("load b ;", "load b ;"), (0, 0))
        self.assert_split("b", cut("load b ;", "load b ;", "unload b ;"), (0, 1, 2))

    def test_unloaded_in_two_houses(self):
        self.assert_split("b", cut("unload b ;", "unload b ;"), (0, 1))
        self.assert_split("b", cut("unload b ;", "unload b ;", "load b ;"), (0, 1, 2))

    def test_loaded_and_unloaded_in_the_same_two(self):
        self.assert_split("b", cut("load b ; unload b ;", "load b ; unload b ;"), (0, 1))

    def test_one_house_alone_can_do_all(self):
        model = cut("load e ; unload e ; if belt e 1 { } if belt b 1 { }", "hold 1 ;", "load e ;")
        self.assert_links((), model, (1, 0, 1))
        self.assert_split("e", model, (0, 1, 1))

    def test_room(self):
        self.assert_split("e", cut("load e ;", "unload e ;"), (0, 1))

    def test_an_if(self):
        for body in ("if belt b 1 { }", "loop 2 { if belt b 0 { } else { hold 1 ; } }"):
            self.assert_split("b", cut("load b ;" + body, "unload b ;"), (0, 1))
            self.assert_split("b", cut("load b ;", "unload b ;" + body), (0, 1))
            self.assert_split("b", cut("load b ;", "unload b ;", body), (0, 1, 2))
            self.assert_split("b", cut("load b ;", body), (0, 1))

    def test_deep_statements_count(self):
        deep = """draw s { at 0 { } at 1 { use r rank 1 patience 2 { } else { guard { } handle { loop 2 {
            if store c 1 { } else { load b ; } } } } } }"""
        self.assert_links((("b", 3, 0, 1),), cut(deep, "unload b ;"), (0, 1))
        in_cycle = let("""model 2 streams { belt b length 1 ; process p at 0 { } cycle { load b ; hold 1 ; }
            process q at 0 { } cycle { unload b ; hold 1 ; } }""")
        self.assert_links((("b", 1, 1, 0),), in_cycle, (1, 0))


class Splits(Houses):
    def test_streams_resources_stores_and_counters(self):
        draw, use = "draw t { at 0 1 { } }", "use r rank 0 { }"
        bodies = {
            "t": (draw, draw), "r": (use, "if queue r 1 { }"), "c": ("put c 1 ;", "take c 1 ;"),
            "k": ("add k 1 ;", "if counter k 2 { }"),
        }
        for name, pair in bodies.items():
            self.assert_split(name, cut(*pair), (0, 1))
            self.assert_split(name, cut("", *pair), (0, 1, 0))
            self.assert_links((), cut(*pair), (0, 0))
            self.assert_links((), cut("", *pair), (0, 1, 1))
        self.assert_split("r", cut("if free r 1 { }", use), (0, 1))
        self.assert_split("c", cut("if store c 1 { }", "put c 1 ;"), (0, 1))
        self.assert_split("k", cut("drop k 1 ;", "add k 1 ;"), (1, 0))

    def test_all_parts_of_a_put_count(self):
        items = "store c 0 of 9 ; store d 0 of 9 ;"
        self.assert_split("d", cut("put c 1 , d 1 ;", "take d 1 ;", items=items), (0, 1))
        self.assert_split("c", cut("put c 1 , d 1 ;", "take d 1 , c 1 ;", items=items), (0, 1))

    def test_interrupts(self):
        self.assert_split("q", cut("interrupt q ;", ""), (0, 1))
        self.assert_split("p", cut("", "guard { interrupt p ; } handle { }"), (0, 1))
        self.assert_links((), cut("interrupt q ;", "interrupt p ;"), (0, 0))
        self.assert_links((), cut("interrupt p ;", "interrupt w ;", "interrupt q ;"), (0, 1, 1))
        self.assert_split("q", cut("interrupt q ;", "interrupt q ;"), (0, 1))

    def test_end(self):
        self.assert_links((), cut("end ;", "hold 1 ; end ;"), (0, 0))
        self.assert_split("q", cut("", "loop 2 { end ; }"), (0, 1))
        self.assert_split("p", cut("end ;", "end ;"), (0, 1))
        self.assert_split("w", cut("", "", "guard { } handle { end ; }"), (0, 1, 0))
        in_cycle = let("model 2 streams { process p at 0 { } cycle { } process q at 0 { } cycle { end ; } }")
        self.assert_split("q", in_cycle, (0, 1))
        self.assert_links((), cut("stop ;", "stop ;"), (0, 1))

    def test_the_first_one_in_the_order_of_the_model(self):
        faults = {
            "s": "draw s { at 0 1 { } }", "t": "draw t { at 0 1 { } }", "r": "use r rank 0 { }", "c": "put c 1 ;",
            "b": "load b ;", "e": "unload e ;", "f": "unload f ; load f ;", "k": "add k 1 ;", "p": "interrupt p ;",
            "q": "interrupt q ;",
        }
        names = list(faults)
        for first, second in itertools.combinations(names, 2):
            for pair in ((first, second), (second, first)):
                body = " ".join(faults[name] for name in pair)
                self.assert_split(first, cut(body, body), (0, 1))
        self.assert_split("p", cut("end ;", "interrupt p ;"), (0, 1))
        self.assert_split("p", cut("end ;", "interrupt q ; "), (0, 1))
        self.assert_split("k", cut("end ; add k 1 ;", "add k 1 ; "), (0, 1))


if __name__ == "__main__":
    unittest.main()
