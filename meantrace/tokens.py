"""Texts as tokens."""

from meantrace.names import LETTERS, DIGITS

CAPITALS = "ABCDEFGHIJKLMNOPQRSTUVWXYZ"


def tokens_of(text):
    """The tokens of a text in order."""
    tokens = []
    at = 0
    while at < len(text):
        end = end_of_token(text, at)
        if text[at] not in " \n":
            tokens.append(text[at:end])
        at = end
    return tuple(tokens)


def end_of_token(text, at):
    """Where the run, or the single character, that begins here ends."""
    end = at
    while end < len(text) and is_of_run(text[end]):
        end += 1
    return max(end, at + 1)


def is_of_run(sign):
    """Whether a character is a letter or a digit."""
    return sign in LETTERS or sign in CAPITALS or sign in DIGITS
