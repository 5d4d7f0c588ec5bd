"""Values of integers, strings, None and tuples as texts."""

from meantrace.errors import BadText
from meantrace.readers import Reader

FIRST_FIGURES = "123456789"
QUOTE = '"'


def write_value(value):
    """The text of a value."""
    if value is None:
        return "none"
    if isinstance(value, str):
        return QUOTE + value + QUOTE
    if isinstance(value, tuple):
        return "(" + ",".join([write_value(part) for part in value]) + ")"
    return str(value)


def read_value(text):
    """The value of a text. Whatever was read up to a character that fits can be completed."""
    reader = Reader(text)
    value = read_inner(reader)
    reader.finish()
    return value


def read_inner(reader):
    """Read a value, which may be a part of another one."""
    sign = reader.ahead()
    if sign == "(":
        return read_tuple(reader)
    if sign == QUOTE:
        return read_string(reader)
    if sign == "n":
        for letter in "none":
            reader.expect(letter)
        return None
    return read_integer(reader)


def read_tuple(reader):
    """Read a tuple."""
    reader.expect("(")
    if reader.accept(")"):
        return ()
    parts = [read_inner(reader)]
    while not reader.accept(")"):
        reader.expect(",")
        parts.append(read_inner(reader))
    return tuple(parts)


def read_string(reader):
    """Read a string."""
    reader.expect(QUOTE)
    signs = []
    while " " <= reader.ahead() <= "~" and reader.ahead() != QUOTE:
        signs.append(reader.read_any())
    reader.expect(QUOTE)
    return "".join(signs)


def read_integer(reader):
    """Read an integer; none has a 0 in front, and 0 has no sign."""
    if reader.accept("0"):
        return 0
    factor = -1 if reader.accept("-") else 1
    if reader.ahead() == "" or reader.ahead() not in FIRST_FIGURES:
        raise BadText(reader.at)
    figures = []
    while reader.is_at_number():
        figures.append(reader.read_any())
    return factor * int("".join(figures))
