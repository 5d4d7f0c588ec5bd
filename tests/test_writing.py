"""Point [7]: trees as texts."""

import unittest

from helpers import EXAMPLE, tree

from meantrace.reading import read_model
from meantrace.writing import write_model


def body_text(*statements):
    """What is written for the statements of once."""
    text = write_model(tree(statements, cycle=()))
    head, tail = "model 2 streams {\nprocess p at 0 {\n", "}\ncycle {\n}\n}\n"
    assert text.startswith(head) and text.endswith(tail), text
    return text[len(head):-len(tail)]


class Writing(unittest.TestCase):
    def test_the_examples(self):
        model = ("model", 3, (), (("store", "bin", 0, 5),), ())
        self.assertEqual(write_model(model), "model 3 streams {\nstore bin 0 of 5 ;\n}\n")
        self.assertEqual(write_model(EXAMPLE), (
            "model 2 streams s {\nprocess p at 0 {\n}\ncycle {\ndraw s {\nat 0 {\nmark a ;\n}\n"
            "at 1 {\n}\n}\nhold 1 ;\n}\n}\n"
        ))

    def test_streams_and_items(self):
        items = (
            ("resource", "r", ((1, 2), (0, 9))), ("belt", "b", 3, None), ("belt", "d", 3, 4),
            ("counter", "k", 0, 9),
        )
        self.assertEqual(write_model(("model", 0, ("s", "t"), items, ())), (
            "model 0 streams s t {\nresource r plan 1 for 2 , 0 for 9 ;\nbelt b length 3 ;\n"
            "belt d length 3 room 4 ;\ncounter k 0 of 9 ;\n}\n"
        ))

    def test_simple_statements(self):
        rows = {
            ("hold", 4): "hold 4 ;\n", ("mark", "m"): "mark m ;\n", ("add", "k", 3): "add k 3 ;\n",
            ("drop", "k", 0): "drop k 0 ;\n", ("put", (("c", 1),)): "put c 1 ;\n",
            ("put", (("c", 1), ("d", 2))): "put c 1 , d 2 ;\n",
            ("take", (("c", 1), ("d", 2), ("e", 3))): "take c 1 , d 2 , e 3 ;\n",
            ("load", "b"): "load b ;\n", ("unload", "b"): "unload b ;\n",
            ("interrupt", "q"): "interrupt q ;\n", ("stop",): "stop ;\n", ("end",): "end ;\n",
        }
        for statement, text in rows.items():
            self.assertEqual(body_text(statement), text)

    def test_statements_with_bodies(self):
        end = (("end",),)
        rows = {
            ("draw", "s", (((0, 2), end), ((1,), ()))): "draw s {\nat 0 2 {\nend ;\n}\nat 1 {\n}\n}\n",
            ("use", "r", 3, None, end, ()): "use r rank 3 {\nend ;\n}\n",
            ("use", "r", 3, 2, end, ()): "use r rank 3 patience 2 {\nend ;\n}\nelse {\n}\n",
            ("use", "r", 3, 2, (), end): "use r rank 3 patience 2 {\n}\nelse {\nend ;\n}\n",
            ("if", "free", "r", 1, (), ()): "if free r 1 {\n}\n",
            ("if", "queue", "r", 1, end, end): "if queue r 1 {\nend ;\n}\nelse {\nend ;\n}\n",
            ("loop", 5, end): "loop 5 {\nend ;\n}\n",
            ("guard", end, ()): "guard {\nend ;\n}\nhandle {\n}\n",
        }
        for statement, text in rows.items():
            self.assertEqual(body_text(statement), text)
            model = tree((statement,))
            self.assertEqual(read_model(write_model(model)), model)

    def test_an_empty_else_of_an_if_is_not_written(self):
        text = "model 2 streams { process p at 0 { if free r 1 { } else { } } cycle { } }"
        model = read_model(text)
        self.assertNotIn("else", write_model(model))
        self.assertEqual(read_model(write_model(model)), model)

    def test_bodies_inside_of_one_another(self):
        body = (("hold", 1),)
        for number in range(18):
            body = (("loop", 1 + number % 9, body), ("mark", "a"))
        self.assertEqual(read_model(write_model(tree(body))), tree(body))


if __name__ == "__main__":
    unittest.main()
