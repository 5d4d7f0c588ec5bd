"""Texts as trees.

One token ahead is enough to tell how a text of the grammar goes on, and whatever was read up to
there can be completed. So the first token that does not fit is the first bad one.
"""

from meantrace.errors import BadText
from meantrace.names import is_name
from meantrace.readers import Reader
from meantrace.tokens import tokens_of

ITEM_WORDS = ("resource", "store", "belt", "counter")
GAUGE_WORDS = ("free", "queue", "store", "belt", "counter")


def read_model(text):
    """The tree of a text."""
    reader = Reader(tokens_of(text))
    reader.expect("model")
    base = reader.read_number()
    reader.expect("streams")
    streams = []
    while is_name(reader.ahead()):
        streams.append(reader.read_name())
    reader.expect("{")
    items = []
    while reader.ahead() in ITEM_WORDS:
        items.append(read_item(reader))
    processes = []
    while reader.ahead() == "process":
        processes.append(read_process(reader))
    reader.expect("}")
    reader.finish()
    return ("model", base, tuple(streams), tuple(items), tuple(processes))


def read_item(reader):
    """Read an item."""
    word = reader.read_any()
    name = reader.read_name()
    if word == "resource":
        item = (word, name, read_spans(reader))
    elif word == "belt":
        reader.expect("length")
        length = reader.read_number()
        room = reader.read_number() if reader.accept("room") else None
        item = (word, name, length, room)
    else:
        item = (word, name, *read_pair(reader, "of"))
    reader.expect(";")
    return item


def read_spans(reader):
    """Read the plan of a resource."""
    reader.expect("plan")
    spans = [read_pair(reader, "for")]
    while reader.accept(","):
        spans.append(read_pair(reader, "for"))
    return tuple(spans)


def read_pair(reader, between):
    """Read two numbers with a word between them."""
    first = reader.read_number()
    reader.expect(between)
    return (first, reader.read_number())


def read_process(reader):
    """Read a process."""
    reader.expect("process")
    name = reader.read_name()
    reader.expect("at")
    start = reader.read_number()
    once = read_body(reader)
    reader.expect("cycle")
    return ("process", name, start, once, read_body(reader))


def read_body(reader):
    """Read a body with its braces."""
    reader.expect("{")
    statements = []
    while not reader.accept("}"):
        statements.append(read_statement(reader))
    return tuple(statements)


def read_statement(reader):
    """Read a statement."""
    word = reader.ahead()
    if word not in STATEMENTS:
        raise BadText(reader.at)
    read = STATEMENTS[word]
    return read(reader, reader.read_any())


def read_plain(reader, word):
    """Read the end of a statement that is its word alone."""
    reader.expect(";")
    return (word,)


def read_counted(reader, word):
    """Read the rest of a statement with a number."""
    n = reader.read_number()
    reader.expect(";")
    return (word, n)


def read_named(reader, word):
    """Read the rest of a statement with a name."""
    name = reader.read_name()
    reader.expect(";")
    return (word, name)


def read_change(reader, word):
    """Read the rest of an `add` or a `drop`."""
    part = read_part(reader)
    reader.expect(";")
    return (word, *part)


def read_parts(reader, word):
    """Read the rest of a `put` or a `take`."""
    parts = [read_part(reader)]
    while reader.accept(","):
        parts.append(read_part(reader))
    reader.expect(";")
    return (word, tuple(parts))


def read_part(reader):
    """Read a name and a number."""
    name = reader.read_name()
    return (name, reader.read_number())


def read_draw(reader, word):
    """Read the rest of a `draw`."""
    name = reader.read_name()
    reader.expect("{")
    arms = [read_arm(reader)]
    while not reader.accept("}"):
        arms.append(read_arm(reader))
    return (word, name, tuple(arms))


def read_arm(reader):
    """Read an arm of a `draw`."""
    reader.expect("at")
    digits = [reader.read_number()]
    while reader.is_at_number():
        digits.append(reader.read_number())
    return (tuple(digits), read_body(reader))


def read_use(reader, word):
    """Read the rest of a `use`."""
    name = reader.read_name()
    reader.expect("rank")
    rank = reader.read_number()
    if not reader.accept("patience"):
        return (word, name, rank, None, read_body(reader), ())
    patience = reader.read_number()
    body = read_body(reader)
    reader.expect("else")
    return (word, name, rank, patience, body, read_body(reader))


def read_if(reader, word):
    """Read the rest of an `if`."""
    gauge = reader.choose(GAUGE_WORDS)
    name = reader.read_name()
    n = reader.read_number()
    body = read_body(reader)
    otherwise = read_body(reader) if reader.accept("else") else ()
    return (word, gauge, name, n, body, otherwise)


def read_loop(reader, word):
    """Read the rest of a `loop`."""
    n = reader.read_number()
    return (word, n, read_body(reader))


def read_guard(reader, word):
    """Read the rest of a `guard`."""
    body = read_body(reader)
    reader.expect("handle")
    return (word, body, read_body(reader))


STATEMENTS = {
    "hold": read_counted, "mark": read_named, "add": read_change, "drop": read_change,
    "put": read_parts, "take": read_parts, "load": read_named, "unload": read_named,
    "interrupt": read_named, "stop": read_plain, "end": read_plain, "draw": read_draw,
    "use": read_use, "if": read_if, "loop": read_loop, "guard": read_guard,
}
