"""Points [6] and [7]: the grammar, the tree, and the first bad token."""

import random
import unittest

from earley import first_bad
from helpers import EXAMPLE, EXAMPLE_TEXT, one
from random_models import random_model

from meantrace.errors import BadText
from meantrace.reading import read_model
from meantrace.tokens import tokens_of
from meantrace.writing import write_model

WORDS = (
    "model streams resource store belt counter process plan for of length room at cycle hold mark "
    "add drop put take load unload interrupt stop end draw use rank patience else if free queue "
    "loop guard handle { } , ; 0 1 7 9 a p x7 abcdefgh abcdefghi 12 1a A aB . _ ( ~"
).split()

ALL_KINDS = """
model 3 streams s t {
resource r plan 1 for 2 , 0 for 9 ; store c 0 of 5 ; belt b length 3 ; belt d length 4 room 2 ;
counter k 2 of 9 ;
process p at 0 {
hold 1 ; mark a ; add k 1 ; drop k 2 ; put c 1 ; take c 2 , c2 3 ; load b ; unload b ; interrupt q ;
stop ; end ; draw s { at 0 1 { } at 2 { hold 1 ; } } use r rank 1 { mark a ; }
use r rank 1 patience 3 { } else { mark b ; } if free r 1 { } if queue r 2 { mark a ; } else { stop ; }
if store c 3 { } if belt b 4 { } if counter k 5 { } loop 4 { end ; } guard { } handle { mark c ; }
} cycle { hold 1 ; } process q at 9 { } cycle { } }
"""


def bad_at(text):
    """The number of the first bad token, or None."""
    try:
        read_model(text)
    except BadText as error:
        return error.at
    return None


def once_of(text):
    """The statements of the one process."""
    return read_model(text)[4][0][3]


class Trees(unittest.TestCase):
    def test_the_example(self):
        self.assertEqual(read_model(EXAMPLE_TEXT), EXAMPLE)

    def test_blanks_do_not_matter(self):
        packed = EXAMPLE_TEXT
        for sign in "{};":
            packed = packed.replace(" " + sign, sign).replace(sign + " ", sign)
        self.assertNotIn("; ", packed)
        self.assertEqual(read_model(packed), EXAMPLE)
        self.assertEqual(read_model(EXAMPLE_TEXT.replace(" ", "\n")), EXAMPLE)
        self.assertEqual(read_model("\n  " + EXAMPLE_TEXT.replace(" ", " \n ") + " \n"), EXAMPLE)

    def test_the_least_model(self):
        self.assertEqual(read_model("model 0 streams{}"), ("model", 0, (), (), ()))

    def test_streams(self):
        self.assertEqual(read_model("model 9 streams a b a{}"), ("model", 9, ("a", "b", "a"), (), ()))

    def test_items(self):
        text = ("model 2 streams { counter k 0 of 9 ; resource r plan 1 for 2 ; belt b length 3 ; "
                "resource q plan 0 for 1 , 4 for 9 , 2 for 3 ; belt d length 3 room 0 ; store c 1 of 5 ; }")
        self.assertEqual(read_model(text)[3], (
            ("counter", "k", 0, 9), ("resource", "r", ((1, 2),)), ("belt", "b", 3, None),
            ("resource", "q", ((0, 1), (4, 9), (2, 3))), ("belt", "d", 3, 0), ("store", "c", 1, 5),
        ))

    def test_processes(self):
        text = "model 2 streams { process p at 7 { stop ; } cycle { end ; } process q at 0 { } cycle { } }"
        self.assertEqual(read_model(text)[4], (
            ("process", "p", 7, (("stop",),), (("end",),)), ("process", "q", 0, (), ()),
        ))

    def test_simple_statements(self):
        rows = {
            "hold 4 ;": ("hold", 4), "mark m ;": ("mark", "m"), "add k 3 ;": ("add", "k", 3),
            "drop k 0 ;": ("drop", "k", 0), "put c 1 ;": ("put", (("c", 1),)),
            "put c 1 , d 2 , c 9 ;": ("put", (("c", 1), ("d", 2), ("c", 9))),
            "take c 1 , d 2 ;": ("take", (("c", 1), ("d", 2))), "load b ;": ("load", "b"),
            "unload b ;": ("unload", "b"), "interrupt p ;": ("interrupt", "p"), "stop ;": ("stop",),
            "end ;": ("end",),
        }
        for text, statement in rows.items():
            self.assertEqual(once_of(one(text)), (statement,))

    def test_statements_with_bodies(self):
        rows = {
            "draw s { at 0 { } }": ("draw", "s", (((0,), ()),)),
            "draw s { at 0 2 { stop ; } at 1 { } }":
                ("draw", "s", (((0, 2), (("stop",),)), ((1,), ()))),
            "use r rank 3 { stop ; }": ("use", "r", 3, None, (("stop",),), ()),
            "use r rank 3 patience 2 { stop ; } else { }": ("use", "r", 3, 2, (("stop",),), ()),
            "use r rank 3 patience 2 { } else { end ; }": ("use", "r", 3, 2, (), (("end",),)),
            "if free r 1 { }": ("if", "free", "r", 1, (), ()),
            "if queue r 1 { } else { }": ("if", "queue", "r", 1, (), ()),
            "if store r 1 { } else { end ; }": ("if", "store", "r", 1, (), (("end",),)),
            "if belt r 1 { end ; }": ("if", "belt", "r", 1, (("end",),), ()),
            "if counter r 1 { }": ("if", "counter", "r", 1, (), ()),
            "loop 5 { stop ; }": ("loop", 5, (("stop",),)),
            "guard { stop ; } handle { end ; }": ("guard", (("stop",),), (("end",),)),
        }
        for text, statement in rows.items():
            self.assertEqual(once_of(one(text)), (statement,))

    def test_an_else_belongs_to_the_body_ahead_of_it(self):
        text = one("if free r 1 { if free r 2 { } } else { end ; } stop ;")
        inner = ("if", "free", "r", 2, (), ())
        self.assertEqual(once_of(text), (("if", "free", "r", 1, (inner,), (("end",),)), ("stop",)))

    def test_reading_what_is_written(self):
        model = read_model(ALL_KINDS)
        self.assertEqual(read_model(write_model(model)), model)

    def test_depth_and_length(self):
        deep = one("loop 1 {" * 18 + "}" * 18)
        self.assertEqual(read_model(write_model(read_model(deep))), read_model(deep))
        long = one("stop ; " * 491)
        self.assertEqual(len(tokens_of(long)), 999)
        self.assertEqual(once_of(long), (("stop",),) * 491)
        self.assertEqual(read_model(write_model(read_model(long))), read_model(long))


class BadTexts(unittest.TestCase):
    def test_the_example(self):
        self.assertEqual(bad_at("model 2 streams { } x"), 5)

    def test_the_empty_text(self):
        self.assertEqual(bad_at(""), 0)
        self.assertEqual(bad_at(" \n"), 0)

    def test_behind_the_last_brace(self):
        for more in ("}", ";", "model", "process", "1", "x", "{"):
            self.assertEqual(bad_at("model 2 streams { } " + more), 5)
            self.assertEqual(bad_at(EXAMPLE_TEXT + more), len(tokens_of(EXAMPLE_TEXT)))

    def test_texts_that_end_too_soon(self):
        tokens = tokens_of(ALL_KINDS)
        self.assertIsNone(bad_at(" ".join(tokens)))
        for many in range(len(tokens)):
            self.assertEqual(bad_at(" ".join(tokens[:many])), many)

    def test_numbers_have_one_digit(self):
        self.assertEqual(bad_at("model 10 streams { }"), 1)
        self.assertEqual(bad_at("model 2a streams { }"), 1)
        self.assertEqual(bad_at("model x streams { }"), 1)
        self.assertEqual(bad_at("model - 2 streams { }"), 1)
        self.assertEqual(bad_at("model 01 streams { }"), 1)

    def test_names(self):
        self.assertEqual(bad_at("model 2 streams abcdefghi { }"), 3)
        self.assertEqual(bad_at("model 2 streams a B { }"), 4)
        self.assertEqual(bad_at("model 2 streams a hold { }"), 4)
        self.assertEqual(bad_at("model 2 streams a 7 { }"), 4)
        self.assertEqual(bad_at("model 2 streams a 7a { }"), 4)
        self.assertEqual(bad_at("Model 2 streams { }"), 0)

    def test_places_in_items(self):
        head = "model 2 streams { "
        rows = {
            "resource r plan ;": 7, "resource r plan 1 ;": 8, "resource r plan 1 for ;": 9,
            "resource r plan 1 for 2 , ;": 11, "resource r plan 1 for 2 1 for 2 ;": 10,
            "resource plan 1 for 2 ;": 5, "store c 0 5 ;": 7, "store c of 5 ;": 6,
            "belt b 3 ;": 6, "belt b length 3 room ;": 9, "belt b length 3 4 ;": 8,
            "belt b length 3 room 4": 10, "counter k 0 of 5 }": 9, "hold 1 ;": 4, "item x ;": 4,
            "process p at 0 { } cycle { } store c 0 of 5 ;": 13, "; }": 4,
        }
        for text, at in rows.items():
            self.assertEqual(bad_at(head + text), at, text)

    def test_places_in_processes(self):
        head = "model 2 streams { "
        rows = {
            "process at 0 { } cycle { } }": 5, "process p 0 { } cycle { } }": 6,
            "process p at { } cycle { } }": 7, "process p at 0 cycle { } }": 8,
            "process p at 0 { } { } }": 10, "process p at 0 { } cycle }": 11,
        }
        for text, at in rows.items():
            self.assertEqual(bad_at(head + text), at, text)

    def test_places_in_statements(self):
        # The body of once begins with token number 9.
        rows = {
            "hold ;": 10, "hold 1": 11, "hold 1 }": 11, "hold x ;": 10, "mark 1 ;": 10, "mark a 1 ;": 11,
            "mark for ;": 10, "add k ;": 11, "add 1 ;": 10, "drop k 1 , k 1 ;": 12, "put ;": 10,
            "put c 1 , ;": 13, "put c 1 c 2 ;": 12, "put c ;": 11, "take c 1 d 2 ;": 12, "load 1 ;": 10,
            "unload b 1 ;": 11, "interrupt ;": 10, "stop 1 ;": 10, "end end ;": 10, "draw { } ": 10,
            "draw s { } ": 12, "draw s { at { } }": 13, "draw s { at 0 1 } ": 15,
            "draw s { at 0 { } 1 { } }": 16, "draw s { at 0 { } ; }": 16, "draw s { 0 { } }": 12,
            "use r 1 { }": 11, "use r rank { }": 12, "use r rank 1 patience { } else { }": 14,
            "use r rank 1 else { }": 13, "use r rank 1 { } else { }": 15,
            "use r rank 1 patience 1 { } hold 1 ;": 17, "use r rank 1 patience 1 { } }": 17,
            "if r 1 { }": 10, "if resource r 1 { }": 10, "if free 1 { }": 11, "if free r { }": 12,
            "if free r 1 { } else stop ;": 16, "if free r 1 { } else { } else { }": 18,
            "loop { }": 10, "loop 1 stop ;": 11, "loop 1 { } ;": 13, "guard handle { }": 10,
            "guard { } { }": 12, "guard { } else { }": 12, "guard { } handle ;": 13, "{ }": 9, ";": 9,
            "at 0 { }": 9, "else { }": 9, "x ;": 9, "process q at 0 { } cycle { }": 9,
        }
        for text, at in rows.items():
            self.assertEqual(bad_at(one(text)), at, text)

    def test_the_first_of_several(self):
        self.assertEqual(bad_at(one("hold ; hold ;")), 10)
        self.assertEqual(bad_at("model 2 streams { } } }"), 5)

    def test_every_word_behind_every_beginning(self):
        tokens = tokens_of(ALL_KINDS)
        for many in range(0, len(tokens), 3):
            for word in WORDS:
                row = (*tokens[:many], word)
                self.assertEqual(bad_at(" ".join(row)), first_bad(row), row)

    def test_random_changes(self):
        dice = random.Random(6)
        for seed in range(60):
            tokens = list(tokens_of(write_model(random_model(seed))))
            self.assertIsNone(first_bad(tokens))
            for _ in range(4):
                row = list(tokens)
                for _ in range(dice.randint(1, 2)):
                    at = dice.randrange(len(row))
                    row[at:at + dice.randint(0, 1)] = [dice.choice(WORDS)] * dice.randint(0, 1)
                self.assertEqual(bad_at(" ".join(row)), first_bad(row), row)


if __name__ == "__main__":
    unittest.main()
