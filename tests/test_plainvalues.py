"""Point [33]: values as texts, there and back."""

import random
import re
import unittest

from meantrace.errors import BadText
from meantrace.plainvalues import read_value, write_value

VALUES = {
    "0": 0, "7": 7, "-1": -1, "1234567890": 1234567890, "-" + "9" * 40: -int("9" * 40), '""': "", '"a b"': "a b",
    '"(1,"': "(1,", '"none"': "none", '"~ !#"': "~ !#", "none": None, "()": (), "(1)": (1,), "(())": ((),),
    '(1,"a",none,())': (1, "a", None, ()), "((1,2),(),(none))": ((1, 2), (), (None,)), "(-3,0)": (-3, 0),
    '("","")': ("", ""), "(((((4)))))": (((((4,),),),),),
}
COMPLETIONS = ("", "0", "1", "e", "ne", "one", "none", '"')


def is_text(text):
    """Whether a text is that of a value: atoms are replaced by a sign, then tuples, until nothing changes."""
    text = re.sub(r'"[ !#-~]*"|none|-?[1-9][0-9]*|0', "\0", text)
    before = None
    while text != before:
        before = text
        text = re.sub("\\((\0(,\0)*)?\\)", "\0", text)
    return text == "\0"


def is_beginning(text):
    return any(is_text(text + rest + ")" * many) for rest in COMPLETIONS for many in range(text.count("(") + 1))


def first_bad(text):
    """The number that is told for a text, or None."""
    for at in range(len(text)):
        if not is_beginning(text[:at + 1]):
            return at
    return None if is_text(text) else len(text)


class Values(unittest.TestCase):
    def test_there_and_back(self):
        for text, value in VALUES.items():
            self.assertEqual(write_value(value), text)
            found = read_value(text)
            self.assertEqual(found, value)
            self.assertIs(type(found), type(value))

    def test_the_example(self):
        self.assertEqual(write_value((1, 'a', None, ())), '(1,"a",none,())')

    def test_all_characters_of_strings(self):
        signs = "".join(chr(code) for code in range(32, 127) if chr(code) != '"')
        self.assertEqual(read_value(write_value(signs)), signs)

    def test_deep_values(self):
        value = ()
        for depth in range(60):
            value = (value,) if depth % 2 else (depth, value, "x")
        self.assertEqual(read_value(write_value(value)), value)

    def test_random_values(self):
        dice = random.Random(33)
        for _ in range(500):
            value = self.make(dice, 4)
            text = write_value(value)
            self.assertTrue(is_text(text))
            self.assertEqual(read_value(text), value)

    def make(self, dice, depth):
        kind = dice.randrange(5 if depth else 3)
        if kind == 0:
            return dice.randint(-10 ** dice.randint(0, 40), 10 ** dice.randint(0, 40))
        if kind == 1:
            return "".join(dice.choice("ab ,()~-0") for _ in range(dice.randint(0, 4)))
        if kind == 2:
            return None
        return tuple(self.make(dice, depth - 1) for _ in range(dice.randint(0, 3)))


class BadTexts(unittest.TestCase):
    def assert_bad(self, text, at):
        self.assertEqual(first_bad(text), at, text)
        with self.assertRaises(BadText) as caught:
            read_value(text)
        self.assertEqual(caught.exception.at, at, text)

    def test_texts_that_end_too_early(self):
        for text in ("", "-", "n", "no", "non", '"', '"ab', "(", "(1", "(1,", "(-", '("', '("a"', "((", "(()", "(none", "(no"):
            self.assert_bad(text, len(text))

    def test_something_behind_the_value(self):
        for text, at in (("1 ", 1), ("0 ", 1), ("()1", 2), ("())", 2), ("(),", 2), ('"a"b', 3), ("nonee", 4), ("none,", 4),
                         ("1,2", 1), ("12(", 2), ("1none", 1), ('1"a"', 1), ("(1)(2)", 3)):
            self.assert_bad(text, at)

    def test_figures(self):
        for text, at in (("-0", 1), ("00", 1), ("01", 1), ("-01", 1), ("--1", 1), ("+1", 0), ("1-", 1), ("-a", 1), ("-(", 1),
                         ("(-0)", 2), ("(01)", 2), ("(1,00)", 4), ("1.5", 1), ("- 1", 1), ("1_0", 1)):
            self.assert_bad(text, at)

    def test_tuples(self):
        for text, at in (("(,", 1), ("(,1)", 1), ("(1,)", 3), ("(1,,2)", 3), ("(1 ,2)", 2), ("(1, 2)", 3), ("( )", 1), (")", 0),
                         (",", 0), ("(1(", 2), ("(()()", 3), ("(none1)", 5), ("[1]", 0)):
            self.assert_bad(text, at)

    def test_strings(self):
        for text, at in (('"a\n"', 2), ('"\t"', 1), ("'a'", 0), ("a", 0), ('"a""', 3)):
            self.assert_bad(text, at)

    def test_words(self):
        for text, at in (("None", 0), ("nope", 2), ("nine", 1), ("nonE", 3), ("nnone", 1), ("none(", 4), ("true", 0)):
            self.assert_bad(text, at)

    def test_blanks_line_feeds_and_tabs(self):
        for sign in (" ", "\n", "\t"):
            for text, at in ((sign, 0), (sign + "1", 0), ("1" + sign, 1), ("(" + sign + ")", 1), ("()" + sign, 2),
                             ("(1" + sign + ")", 2), ("(1," + sign + "2)", 3), ("no" + sign, 2), ("-" + sign, 1)):
                self.assert_bad(text, at)

    def test_a_bad_character_at_each_place(self):
        text = '(-12,"a b",none,(),(0,(3)))'
        for at in range(len(text) + 1):
            for sign in '$\n\t)(,"-0n ':
                self.check(text[:at] + sign + text[at:])
                self.check(text[:at] + sign + text[at + 1:])
            self.check(text[:at])
            self.check(text[:at] + text[at + 1:])

    def test_random_texts(self):
        dice = random.Random(34)
        for _ in range(4000):
            self.check("".join(dice.choice('(),"-0129none a\n\t') for _ in range(dice.randint(0, 6))))
            self.check("(" + "".join(dice.choice('(),"-01n') for _ in range(dice.randint(0, 8))))

    def check(self, text):
        at = first_bad(text)
        if at is None:
            self.assertEqual(write_value(read_value(text)), text)
        else:
            self.assert_bad(text, at)


if __name__ == "__main__":
    unittest.main()
