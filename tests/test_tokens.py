"""Point [6]: texts as tokens."""

import unittest

from meantrace.tokens import tokens_of


class Tokens(unittest.TestCase):
    def test_no_tokens(self):
        for text in ("", " ", "\n", " \n \n"):
            self.assertEqual(tokens_of(text), ())

    def test_no_blanks(self):
        self.assertEqual(tokens_of("{a;b,c}"), ("{", "a", ";", "b", ",", "c", "}"))
        self.assertEqual(tokens_of("}{;;,,"), ("}", "{", ";", ";", ",", ","))

    def test_blanks_and_line_feeds_anywhere(self):
        self.assertEqual(tokens_of("\n model\n\n2  streams\n{ \n}\n "), ("model", "2", "streams", "{", "}"))

    def test_runs_are_as_long_as_they_can_be(self):
        self.assertEqual(tokens_of("12 a1B2c Zz 9x"), ("12", "a1B2c", "Zz", "9x"))
        self.assertEqual(tokens_of("hold1;"), ("hold1", ";"))
        self.assertEqual(tokens_of("azAZ09"), ("azAZ09",))

    def test_every_sign_is_a_token_of_its_own(self):
        signs = [chr(code) for code in range(33, 127) if not chr(code).isalnum()]
        self.assertEqual(len(signs), 32)
        self.assertEqual(tokens_of("".join(signs)), tuple(signs))
        for sign in signs:
            self.assertEqual(tokens_of("a" + sign + "b"), ("a", sign, "b"))
            self.assertEqual(tokens_of(sign + sign), (sign, sign))

    def test_every_letter_and_digit_is_of_a_run(self):
        run = "".join(chr(code) for code in range(33, 127) if chr(code).isalnum())
        self.assertEqual(len(run), 62)
        self.assertEqual(tokens_of(run), (run,))


if __name__ == "__main__":
    unittest.main()
