"""The interface: names, arguments, and where they are defined."""

import ast
import unittest
from pathlib import Path

PACKAGE = Path(__file__).resolve().parent.parent / "meantrace"

FUNCTIONS = {
    "shares": {
        "make_fraction": "n d", "sum_of": "a b", "difference_of": "a b", "product_of": "a b",
        "quotient_of": "a b", "total_of": "fractions", "is_less": "a b",
    },
    "tapes": {"weight": "base tape", "opposite": "base tape", "is_complete": "base tapes"},
    "names": {"is_name": "text"},
    "tokens": {"tokens_of": "text"},
    "reading": {"read_model": "text"},
    "writing": {"write_model": "model"},
    "pauses": {"pauses": "body", "moves_of": "body"},
    "checks": {"check": "model"},
    "states": {"start_state": "model", "free_units": "model state resource"},
    "moves": {"next_mover": "model state", "moved": "model state tick digit", "passed": "model state"},
    "ways": {"ways": "model state"},
    "gauges": {"gauges": "model", "gauge_values": "model state"},
    "histories": {"history": "model tapes * ticks", "shown_of": "events"},
    "replays": {"tapes_of": "model trace", "judge_trace": "model ticks trace"},
    "scenes": {"scenes_of": "frames", "frames_of": "scenes many ticks"},
    "codes": {"code_of": "model"},
}
METHODS = {
    ("errors", "BadText"): {"__init__": "self at"},
    ("errors", "Twice"): {"__init__": "self name"},
    ("errors", "Unknown"): {"__init__": "self name"},
    ("errors", "BadUse"): {"__init__": "self name"},
    ("errors", "BadNumber"): {"__init__": "self value"},
    ("errors", "TooLarge"): {"__init__": "self name"},
    ("errors", "TooMany"): {"__init__": "self name"},
    ("errors", "Endless"): {"__init__": "self name"},
    ("errors", "Dry"): {"__init__": "self name"},
    ("errors", "Split"): {"__init__": "self name"},
    ("errors", "Parted"): {"__init__": "self first second"},
    ("plainruns", "PlainRun"): {
        "__init__": "self model tapes", "of": "cls text tapes", "tick": "self", "played": "self n",
        "clock": "self", "reads": "self", "state": "self", "snapshot": "self value",
        "resume": "self snapshot", "trial": "self", "tried": "self n", "fork": "self tapes",
    },
}
PROPERTIES = ("clock", "reads", "state", "snapshot")


def arguments(node):
    """The names of the parameters of a function; a star stands ahead of those passed by name."""
    words = [arg.arg for arg in node.args.args]
    if node.args.kwonlyargs:
        words += ["*"] + [arg.arg for arg in node.args.kwonlyargs]
    return " ".join(words)


def tree_of(module):
    return ast.parse((PACKAGE / f"{module}.py").read_text())


class Interface(unittest.TestCase):
    def test_functions(self):
        for module, rows in FUNCTIONS.items():
            defined = {node.name: arguments(node) for node in tree_of(module).body
                       if isinstance(node, ast.FunctionDef)}
            for name, words in rows.items():
                self.assertEqual(defined.get(name), words, name)

    def test_classes_and_methods(self):
        for (module, name), rows in METHODS.items():
            (node,) = [node for node in tree_of(module).body
                       if isinstance(node, ast.ClassDef) and node.name == name]
            defined = {part.name: arguments(part) for part in node.body
                       if isinstance(part, ast.FunctionDef)}
            for method, words in rows.items():
                self.assertEqual(defined.get(method), words, method)

    def test_properties(self):
        from meantrace.plainruns import PlainRun
        for name in PROPERTIES:
            self.assertIsInstance(vars(PlainRun)[name], property)
        self.assertIsNotNone(vars(PlainRun)["snapshot"].fset)
        self.assertIsInstance(vars(PlainRun)["of"], classmethod)

    def test_values_are_tuples(self):
        from helpers import let
        from meantrace.codes import code_of
        from meantrace.gauges import gauge_values, gauges
        from meantrace.histories import history
        from meantrace.plainruns import PlainRun
        from meantrace.scenes import scenes_of
        from meantrace.states import start_state
        from meantrace.ways import ways
        model = let("""model 2 streams s { resource r plan 1 for 1 ; belt b length 2 ; store c 1 of 2 ;
            process p at 0 { load b ; draw s { at 0 1 { } } loop 2 { } } cycle { use r rank 0 { hold 9 ; } }
            process q at 0 { use r rank 0 { } } cycle { } }""")
        run = PlainRun(model, ((0, 1),))
        rows = [model, start_state(model), ways(model, start_state(model)), run.tick(), run.snapshot,
                run.tried(3), gauges(model), gauge_values(model, run.state), code_of(model),
                history(model, ((0, 1),), ticks=3), scenes_of(history(model, ((0,),), ticks=3)[0])]
        while rows:
            value = rows.pop()
            if isinstance(value, tuple):
                rows.extend(value)
            else:
                self.assertIn(type(value), (int, str, type(None)))


if __name__ == "__main__":
    unittest.main()
