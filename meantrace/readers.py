"""A place in the tokens, or in the characters, of a text, that goes ahead as they are read."""

from meantrace.errors import BadText
from meantrace.names import DIGITS, is_name


class Reader:
    """Reads tokens one by one. The first one that does not fit is told by its number."""

    def __init__(self, tokens):
        self.tokens = tokens
        self.at = 0

    def ahead(self):
        """The next token; at the end of the tokens the empty string, which is no token."""
        if self.at < len(self.tokens):
            return self.tokens[self.at]
        return ""

    def read_any(self):
        """Read the next token, whatever it is."""
        token = self.ahead()
        self.at += 1
        return token

    def expect(self, word):
        """Read this token."""
        if self.ahead() != word:
            raise BadText(self.at)
        self.at += 1

    def accept(self, word):
        """Read this token if it is the next one, and tell whether it was."""
        if self.ahead() != word:
            return False
        self.at += 1
        return True

    def choose(self, words):
        """Read one of these tokens."""
        if self.ahead() not in words:
            raise BadText(self.at)
        return self.read_any()

    def is_at_number(self):
        """Whether the next token is a NUMBER."""
        return len(self.ahead()) == 1 and self.ahead() in DIGITS

    def read_number(self):
        """Read a NUMBER."""
        if not self.is_at_number():
            raise BadText(self.at)
        return int(self.read_any())

    def read_name(self):
        """Read a NAME."""
        if not is_name(self.ahead()):
            raise BadText(self.at)
        return self.read_any()

    def finish(self):
        """Nothing can follow."""
        if self.at < len(self.tokens):
            raise BadText(self.at)
