"""Point [3]: names."""

import unittest

from meantrace.names import is_name

RESERVED = (
    "model streams resource store belt counter process plan for of length room at cycle hold mark "
    "add drop put take load unload interrupt stop end draw use rank patience else if free queue "
    "loop guard handle"
).split()


class Names(unittest.TestCase):
    def test_lengths(self):
        self.assertIs(is_name("a"), True)
        self.assertIs(is_name("abcdefgh"), True)
        self.assertIs(is_name("abcdefghi"), False)
        self.assertIs(is_name(""), False)

    def test_letters_and_digits(self):
        for text in ("z", "a0", "p9", "q12345", "abc1def2", "model1", "ends", "sto"):
            self.assertIs(is_name(text), True)

    def test_reserved_words(self):
        self.assertEqual(len(RESERVED), 36)
        for word in RESERVED:
            self.assertIs(is_name(word), False)

    def test_strange_characters(self):
        for text in ("A", "aB", "Ab", "1", "1a", "9", "a_b", "_a", "a-b", "a b", " a", "a ", "a\n",
                     "{", ";", "a.b", "\u00e4", "a\u00e4", "a\u0661", "\u0661", "a\u00b2", "\uff41"):
            self.assertIs(is_name(text), False)


if __name__ == "__main__":
    unittest.main()
