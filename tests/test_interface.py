"""The interface: names, arguments, and where they are defined."""

import ast
import unittest
from pathlib import Path

PACKAGE = Path(__file__).resolve().parent.parent / "meantrace"

FUNCTIONS = {
    "shares": {
        "make_fraction": "n d", "sum_of": "a b", "difference_of": "a b", "product_of": "a b",
        "quotient_of": "a b", "total_of": "fractions", "is_less": "a b",
    },
    "tapes": {"weight": "base tape", "opposite": "base tape", "is_complete": "base tapes"},
    "names": {"is_name": "text"},
    "tokens": {"tokens_of": "text"},
    "reading": {"read_model": "text"},
    "writing": {"write_model": "model"},
    "pauses": {"pauses": "body", "moves_of": "body"},
    "checks": {"check": "model"},
    "states": {"start_state": "model", "free_units": "model state resource"},
    "moves": {"next_mover": "model state", "moved": "model state tick digit", "passed": "model state"},
    "ways": {"ways": "model state"},
    "gauges": {"gauges": "model", "gauge_values": "model state"},
    "histories": {"history": "model tapes * ticks", "shown_of": "events"},
    "replays": {"tapes_of": "model trace", "judge_trace": "model ticks trace"},
    "scenes": {"scenes_of": "frames", "frames_of": "scenes many ticks"},
    "codes": {"code_of": "model"},
    "tighten": {"tightened": "code"},
    "tallies": {
        "tally_of": "values", "joined": "tally other", "mean_of": "tally", "spread_of": "tally",
        "gauge_tally": "frames gauge a b",
    },
    "traced": {"traced_tally": "model trace gauge a b"},
    "visits": {
        "visits": "trace resource ticks", "stays": "trace resource ticks", "rides": "trace belt ticks",
        "overlap": "rows a b",
    },
    "batches": {
        "batches": "values length", "spread_within": "tallies", "spread_between": "tallies", "warm_up": "values",
    },
    "houses": {"house_models": "model houses", "links_of": "model houses"},
    "joining": {"join_events": "model rows"},
    "plainvalues": {"write_value": "value", "read_value": "text"},
    "touches": {"is_changed": "elder model", "first_touch": "elder model tapes ticks"},
    "renewing": {
        "records": "model houses tapes ticks", "renewed": "elder model houses tapes records ticks",
    },
    "chains": {"is_chain": "chain", "walk": "chain tape ticks"},
    "chainof": {"states_of": "model", "chain_of": "model"},
    "leaves": {"tree": "chain n"},
    "webs": {"is_web": "web", "web_of": "chain"},
    "reaching": {"reach_within": "web mark n", "reach": "web mark", "judge_reach": "web mark paper"},
    "waiting": {"wait": "web mark", "judge_wait": "web mark paper"},
    "gains": {
        "worth_of": "worths shown", "shares_after": "web state n", "means": "web worths n", "gain": "web worths",
        "judge_gain": "web worths paper",
    },
    "plans": {"is_plan": "plan", "letter_of": "plan shown", "vector_of": "plan letters", "value_of": "plan letters"},
    "fairness": {"decide_plan": "plan", "judge_fair": "plan paper"},
    "estimates": {
        "estimate": "chain plan ticks tape coins", "plan_mean": "web plan ticks", "plan_square": "web plan ticks",
    },
    "forking": {"estimate_runs": "model plan ticks tape coins"},
    "witnesses": {"witness": "plan letters"},
    "bends": {
        "is_bend": "web bend", "bent_web": "web bend", "bent_walk": "web bend goal tickets",
        "bent_mean": "web bend goal n", "bent_square": "web bend goal n",
    },
    "gaps": {"gap": "web bend goal", "best_bend": "web goal"},
    "pairs": {"pair_chain": "left right flip", "pairs_of": "left right flip"},
    "spreads": {"both": "left right flip goal n", "spreads": "left right flip goal n"},
    "watches": {"is_watch": "watch", "never": "mark", "within": "cause effect n", "order": "first second"},
    "claims": {"decide": "chain watch", "judge_holds": "chain watch pairs", "judge_breaks": "chain watch blocks"},
    "latest": {"latest": "chain mark", "judge_ranks": "chain mark ranks", "judge_ring": "chain mark paper"},
    "rates": {"greatest": "chain worths n", "rate": "chain worths", "judge_rate": "chain worths paper"},
    "likeness": {"chance_of": "web row", "alike": "web other", "judge_alike": "web other paper"},
    "lumps": {"rounds": "web", "lumps": "web", "judge_lumps": "web groups", "lumped": "web groups"},
    "loose": {
        "is_loose": "loose", "bounds": "loose goal n", "loosen": "web groups", "judge_within": "web loose places",
    },
}
METHODS = {
    ("errors", "BadText"): {"__init__": "self at"},
    ("errors", "Twice"): {"__init__": "self name"},
    ("errors", "Unknown"): {"__init__": "self name"},
    ("errors", "BadUse"): {"__init__": "self name"},
    ("errors", "BadNumber"): {"__init__": "self value"},
    ("errors", "TooLarge"): {"__init__": "self name"},
    ("errors", "TooMany"): {"__init__": "self name"},
    ("errors", "Endless"): {"__init__": "self name"},
    ("errors", "Dry"): {"__init__": "self name"},
    ("errors", "Split"): {"__init__": "self name"},
    ("errors", "Parted"): {"__init__": "self first second"},
    ("plainruns", "PlainRun"): {
        "__init__": "self model tapes", "of": "cls text tapes", "tick": "self", "played": "self n",
        "clock": "self", "reads": "self", "state": "self", "snapshot": "self value",
        "resume": "self snapshot", "trial": "self", "tried": "self n", "fork": "self tapes",
    },
    ("flatruns", "FlatRun"): {
        "__init__": "self model codes tapes", "tick": "self", "played": "self n", "clock": "self", "reads": "self",
        "state": "self", "snapshot": "self value", "resume": "self snapshot", "trial": "self", "tried": "self n",
        "frame": "self",
    },
    ("calendars", "CalendarRun"): {
        "__init__": "self model codes tapes", "leap": "self limit", "clock": "self", "reads": "self",
        "snapshot": "self value", "resume": "self snapshot", "frame": "self",
    },
    ("ahead", "AheadRun"): {
        "__init__": "self model houses tapes", "go": "self house", "trace_below": "self n", "clocks": "self",
        "final": "self",
    },
    ("guesses", "GuessRun"): {
        "__init__": "self model houses tapes", "go": "self house", "bring": "self k", "trace_below": "self n",
        "clocks": "self", "under_way": "self", "final": "self",
    },
    ("keeping", "KeptRun"): {
        "__init__": "self model tapes every", "trace_to": "self n", "change": "self model", "redraw": "self tapes",
        "known": "self", "work": "self",
    },
    ("watches", "Watcher"): {"__init__": "self watch", "__call__": "self shown", "place": "self", "broken": "self"},
}
PROPERTIES = {
    "PlainRun": ("clock", "reads", "state", "snapshot"), "FlatRun": ("clock", "reads", "state", "snapshot"),
    "CalendarRun": ("clock", "reads", "snapshot"), "AheadRun": ("clocks", "final"),
    "GuessRun": ("clocks", "under_way", "final"), "KeptRun": ("known", "work"),
    "Watcher": ("place", "broken"),
}


def arguments(node):
    """The names of the parameters of a function; a star stands ahead of those passed by name."""
    words = [arg.arg for arg in node.args.args]
    if node.args.kwonlyargs:
        words += ["*"] + [arg.arg for arg in node.args.kwonlyargs]
    return " ".join(words)


def tree_of(module):
    return ast.parse((PACKAGE / f"{module}.py").read_text())


class Interface(unittest.TestCase):
    def test_functions(self):
        for module, rows in FUNCTIONS.items():
            defined = {node.name: arguments(node) for node in tree_of(module).body
                       if isinstance(node, ast.FunctionDef)}
            for name, words in rows.items():
                self.assertEqual(defined.get(name), words, name)

    def test_classes_and_methods(self):
        for (module, name), rows in METHODS.items():
            (node,) = [node for node in tree_of(module).body
                       if isinstance(node, ast.ClassDef) and node.name == name]
            defined = {part.name: arguments(part) for part in node.body
                       if isinstance(part, ast.FunctionDef)}
            for method, words in rows.items():
                self.assertEqual(defined.get(method), words, method)

    def test_properties(self):
        from meantrace.ahead import AheadRun
        from meantrace.calendars import CalendarRun
        from meantrace.flatruns import FlatRun
        from meantrace.guesses import GuessRun
        from meantrace.keeping import KeptRun
        from meantrace.plainruns import PlainRun
        from meantrace.watches import Watcher
        for kind in (PlainRun, FlatRun, CalendarRun, AheadRun, GuessRun, KeptRun, Watcher):
            for name in PROPERTIES[kind.__name__]:
                self.assertIsInstance(vars(kind)[name], property)
        for kind in (PlainRun, FlatRun, CalendarRun):
            self.assertIsNotNone(vars(kind)["snapshot"].fset)
        self.assertIsInstance(vars(PlainRun)["of"], classmethod)
        self.assertTrue(issubclass(CalendarRun, FlatRun))
        for name in ("tick", "played", "state", "trial", "tried"):
            self.assertTrue(hasattr(CalendarRun, name))

    def test_values_are_tuples(self):
        from helpers import let
        from meantrace.codes import code_of
        from meantrace.gauges import gauge_values, gauges
        from meantrace.histories import history
        from meantrace.plainruns import PlainRun
        from meantrace.scenes import scenes_of
        from meantrace.states import start_state
        from meantrace.ways import ways
        model = let("""model 2 streams s { resource r plan 1 for 1 ; belt b length 2 ; store c 1 of 2 ;
            process p at 0 { load b ; draw s { at 0 1 { } } loop 2 { } } cycle { use r rank 0 { hold 9 ; } }
            process q at 0 { use r rank 0 { } } cycle { } }""")
        run = PlainRun(model, ((0, 1),))
        rows = [model, start_state(model), ways(model, start_state(model)), run.tick(), run.snapshot,
                run.tried(3), gauges(model), gauge_values(model, run.state), code_of(model),
                history(model, ((0, 1),), ticks=3), scenes_of(history(model, ((0,),), ticks=3)[0])]
        self.assert_plain(rows)

    def assert_plain(self, rows):
        """Values are tuples, nested, of integers, strings and None."""
        while rows:
            value = rows.pop()
            if isinstance(value, tuple):
                rows.extend(value)
            else:
                self.assertIn(type(value), (int, str, type(None)))

    def test_values_of_other_runs_and_of_statistics_are_tuples(self):
        from helpers import let
        from meantrace.ahead import AheadRun
        from meantrace.batches import batches, spread_between, spread_within, warm_up
        from meantrace.calendars import CalendarRun
        from meantrace.chainof import chain_of, states_of
        from meantrace.chains import walk
        from meantrace.codes import code_of
        from meantrace.flatruns import FlatRun
        from meantrace.guesses import GuessRun
        from meantrace.histories import history
        from meantrace.houses import house_models, links_of
        from meantrace.keeping import KeptRun
        from meantrace.leaves import tree
        from meantrace.renewing import records, renewed
        from meantrace.tallies import gauge_tally, joined, mean_of, spread_of
        from meantrace.tighten import tightened
        from meantrace.touches import first_touch
        from meantrace.traced import traced_tally
        from meantrace.visits import overlap, rides, stays, visits
        from meantrace.webs import web_of
        model = let("""model 2 streams s { resource r plan 1 for 2 ; belt b length 1 ; store c 1 of 2 ;
            process p at 0 { draw s { at 0 1 { } } loop 2 { load b ; } guard { } handle { } if store c 1 { } }
            cycle { use r rank 0 { hold 3 ; } } process q at 0 { unload b ; } cycle { hold 1 ; } }""")
        tapes, houses, codes = ((0, 1),), (0, 1), code_of(model)
        frames, trace = history(model, tapes, ticks=6)
        flat, leaping = FlatRun(model, codes, tapes), CalendarRun(model, codes, tapes)
        tally = gauge_tally(frames, 0, 0, 6)
        rows = [tuple(tightened(code) for code in codes), flat.tick(), flat.snapshot, flat.frame(), flat.tried(2),
                leaping.leap(5), leaping.snapshot, leaping.frame(), leaping.leap(1), tally, joined(tally, tally), mean_of(tally),
                spread_of(tally), traced_tally(model, trace, ("queue", "r"), 1, 5), visits(trace, "r", 6), stays(trace, "r", 6),
                rides(trace, "b", 6), overlap(visits(trace, "r", 6), 0, 6), batches((1, 2), 1), spread_within((tally,)),
                spread_between((tally,)), warm_up((1,)), house_models(model, houses), links_of(model, houses)]
        self.assert_plain(rows)
        ahead, guess, kept = AheadRun(model, houses, tapes), GuessRun(model, houses, tapes), KeptRun(model, tapes, 2)
        ahead.go(0)
        ahead.go(1)
        rows = [ahead.clocks, ahead.final, ahead.trace_below(1), guess.go(0), guess.under_way, guess.go(1), guess.clocks,
                guess.final, guess.trace_below(1), kept.trace_to(3), kept.known, kept.work, kept.change(model), kept.redraw(tapes)]
        told = records(model, houses, tapes, 5)
        chain = chain_of(model)
        rows += [told, renewed(model, model, houses, tapes, told, 5), first_touch(model, model, tapes, 2), chain,
                 states_of(model), walk(chain, (0, 1), 2), tree(chain, 2), web_of(chain)]
        self.assert_plain(rows)

    def test_bools_are_bools(self):
        from helpers import let
        from meantrace.ahead import AheadRun
        from meantrace.chains import is_chain
        from meantrace.guesses import GuessRun
        from meantrace.touches import is_changed
        from meantrace.webs import is_web
        model = let("""model 2 streams { belt b length 1 ; process p at 0 { load b ; } cycle { }
            process q at 0 { unload b ; } cycle { } }""")
        ahead, guess = AheadRun(model, (0, 1), ()), GuessRun(model, (0, 1), ())
        self.assertEqual([ahead.go(0), ahead.go(1), ahead.go(1), ahead.go(1)], [True, True, True, False])
        guess.go(0)
        found = [ahead.go(0), ahead.go(1), guess.bring(0), is_changed(model, model), is_changed(model, ("model", 3, (), (), ())),
                 is_chain(("chain", 2, ())), is_web(("web", ())), is_chain(("chain", 2, ((((), (), 0),),))),
                 is_web(("web", ((((), 0, (1, 1)),),)))]
        self.assertEqual({type(value) for value in found}, {bool})

    def test_values_of_webs_and_plans_are_tuples(self):
        from helpers import EXAMPLE
        from meantrace.bends import bent_mean, bent_square, bent_walk, bent_web
        from meantrace.chainof import chain_of
        from meantrace.estimates import estimate, plan_mean, plan_square
        from meantrace.fairness import decide_plan
        from meantrace.forking import estimate_runs
        from meantrace.gains import gain, means, shares_after, worth_of
        from meantrace.plans import letter_of, value_of, vector_of
        from meantrace.reaching import reach, reach_within
        from meantrace.waiting import wait
        from meantrace.webs import web_of
        from meantrace.witnesses import witness
        chain = chain_of(EXAMPLE)
        web, worths = web_of(chain), (("a", 3),)
        plan = ("plan", 2, "g", ("a",), ((1, 1), (1, 2)), ((((1, (2, 1), 0),), ((2, (2, 1), 1),)),) * 2)
        bend = ((1, 2), (0, 3))
        rows = [reach_within(web, "a", 2), reach(web, "a"), wait(web, "a"), worth_of(worths, ("a",)), shares_after(web, 0, 1),
                means(web, worths, 2), gain(web, worths), letter_of(plan, ()), vector_of(plan, (0,)), value_of(plan, (1,)),
                decide_plan(plan), decide_plan((*plan[:4], ((2, 1), (1, 1)), plan[5])), estimate(chain, plan, 2, (1, 1), (0,)),
                plan_mean(web, plan, 3), plan_square(web, plan, 3), estimate_runs(EXAMPLE, plan, 2, (1, 1), (0,)),
                witness(plan, (0, 1)), bent_web(web, bend), bent_walk(web, bend, "a", (0, 1)), bent_walk(web, bend, "z", (0,)),
                bent_mean(web, bend, "a", 2), bent_square(web, bend, "a", 2)]
        self.assertEqual({type(row) for row in rows}, {tuple, int})
        self.assert_plain(rows)

    def test_judges_of_webs_and_plans_return_bools(self):
        from meantrace.bends import is_bend
        from meantrace.fairness import judge_fair
        from meantrace.gains import judge_gain
        from meantrace.plans import is_plan
        from meantrace.reaching import judge_reach
        from meantrace.waiting import judge_wait
        web = ("web", (((("a",), 0, (1, 1)),),))
        plan = ("plan", 2, "g", (), ((1, 1),), ((((2, (1, 1), 0),),),))
        one = (1, 1)
        found = [judge_reach(web, "a", ((one,), (1,))), judge_reach(web, "a", ((), ())), judge_wait(web, "a", ((one,), (1,), (one,))),
                 judge_wait(web, "a", ((), (), ())), judge_gain(web, (), ((0, 1), ((0, 1),))), judge_gain(web, (), (one, ())),
                 is_plan(plan), is_plan((*plan[:4], (), ())), judge_fair(plan, (((one,),), (((one,),),))), judge_fair(plan, ((), ())),
                 is_bend(web, ((1,),)), is_bend(web, ((0,),)), is_bend(web, ())]
        self.assertEqual(found, [True, False] * 6 + [False])
        self.assertEqual({type(value) for value in found}, {bool})

    def test_values_of_claims_and_likeness_are_tuples(self):
        from helpers import EXAMPLE
        from meantrace.chainof import chain_of
        from meantrace.claims import decide
        from meantrace.gaps import best_bend, gap
        from meantrace.latest import latest
        from meantrace.likeness import alike, chance_of
        from meantrace.loose import bounds, loosen
        from meantrace.lumps import lumped, lumps, rounds
        from meantrace.pairs import pair_chain, pairs_of
        from meantrace.rates import greatest, rate
        from meantrace.spreads import both, spreads
        from meantrace.watches import Watcher, never, order, within
        from meantrace.webs import web_of
        chain = chain_of(EXAMPLE)
        web, worths = web_of(chain), (("a", 3),)
        groups = lumps(web)
        other = ("web", ((((), 0, (1, 3)), (("a",), 0, (2, 3))),))
        watcher = Watcher(never("a"))
        rows = [gap(web, ((1, 0), (1, 1)), "a"), best_bend(web, "a"), pair_chain(chain, chain, 1), pairs_of(chain, chain, 0),
                both(chain, chain, 1, "a", 2), spreads(chain, chain, 1, "a", 2), never("a"), within("a", "b", 2), order("a", "b"),
                watcher.place, watcher(("a",)), watcher.place, decide(chain, never("a")), decide(chain, never("b")), latest(chain, "a"),
                latest(("chain", 2, ((((), ("a",), 0),),)), "a"), greatest(chain, worths, 3), rate(chain, worths), chance_of(web, ((),)),
                alike(web, web), alike(web, other), rounds(web), groups, lumped(web, groups), loosen(web, groups),
                bounds(loosen(web, groups), "a", 3)]
        self.assertEqual({type(row) for row in rows}, {tuple, int})
        self.assert_plain(rows)
        self.assertIsNone(gap(web, ((1, 1), (1, 1)), "a"))

    def test_judges_of_claims_and_likeness_return_bools(self):
        from meantrace.claims import judge_breaks, judge_holds
        from meantrace.latest import judge_ranks, judge_ring
        from meantrace.likeness import judge_alike
        from meantrace.loose import is_loose, judge_within
        from meantrace.lumps import judge_lumps
        from meantrace.rates import judge_rate
        from meantrace.watches import Watcher, is_watch, never
        chain = ("chain", 2, ((((), ("a",), 0),),))
        web = ("web", (((("a",), 0, (1, 1)),),))
        loose = ("loose", (((("a",), 0, (0, 1), (1, 1)),),))
        one, none = (1, 1), (0, 1)
        found = [judge_holds(chain, never("b"), ((0, 0),)), judge_holds(chain, never("b"), ()),
                 judge_breaks(chain, never("a"), ((),)), judge_breaks(chain, never("a"), ((0,),)), judge_ranks(chain, "a", (1,)),
                 judge_ranks(chain, "a", ()), judge_ring(chain, "b", ((), ((),))), judge_ring(chain, "b", ((), ())),
                 judge_rate(chain, (), (none, (none,), (), ((),))), judge_rate(chain, (), (none, (), (), ())),
                 judge_alike(web, web, (((one, one),), (((one,),),))), judge_alike(web, web, ((), ())), judge_lumps(web, (0,)),
                 judge_lumps(web, ()), is_loose(loose), is_loose(("loose", ())), judge_within(web, loose, (0,)), judge_within(web, loose, ()),
                 is_watch(never("a")), is_watch(("watch", (), ())), Watcher((*never("a")[:2], (0,))).broken, Watcher(never("a")).broken]
        self.assertEqual(found, [True, False] * 11)
        self.assertEqual({type(value) for value in found}, {bool})


if __name__ == "__main__":
    unittest.main()
