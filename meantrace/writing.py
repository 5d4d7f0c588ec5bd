"""Trees as texts."""


def write_model(model):
    """The text of a tree."""
    _, base, streams, items, processes = model
    tokens = ["model", str(base), "streams", *streams, "{"]
    for item in items:
        tokens.extend(item_tokens(item))
    for process in processes:
        tokens.extend(process_tokens(process))
    tokens.append("}")
    return "".join([spaced(token) for token in tokens])


def spaced(token):
    """A token and what separates it from the next one."""
    if token in ("{", "}", ";"):
        return token + "\n"
    return token + " "


def item_tokens(item):
    """The tokens of an item."""
    word = item[0]
    if word == "resource":
        spans = listed([[str(units), "for", str(ticks)] for units, ticks in item[2]])
        return [word, item[1], "plan", *spans, ";"]
    if word == "belt":
        room = [] if item[3] is None else ["room", str(item[3])]
        return [word, item[1], "length", str(item[2]), *room, ";"]
    return [word, item[1], str(item[2]), "of", str(item[3]), ";"]


def listed(rows):
    """Rows of tokens one after the other, with commas between them."""
    tokens = []
    for row in rows:
        if tokens:
            tokens.append(",")
        tokens.extend(row)
    return tokens


def process_tokens(process):
    """The tokens of a process."""
    _, name, start, once, cycle = process
    return ["process", name, "at", str(start), *body_tokens(once), "cycle", *body_tokens(cycle)]


def body_tokens(body):
    """The tokens of a body with its braces."""
    tokens = ["{"]
    for statement in body:
        tokens.extend(statement_tokens(statement))
    tokens.append("}")
    return tokens


def statement_tokens(statement):
    """The tokens of a statement."""
    word = statement[0]
    if word in ("put", "take"):
        parts = listed([[name, str(n)] for name, n in statement[1]])
        return [word, *parts, ";"]
    if word == "draw":
        return draw_tokens(statement)
    if word == "use":
        return use_tokens(statement)
    if word == "if":
        return if_tokens(statement)
    if word == "loop":
        return [word, str(statement[1]), *body_tokens(statement[2])]
    if word == "guard":
        return [word, *body_tokens(statement[1]), "handle", *body_tokens(statement[2])]
    return [*[str(part) for part in statement], ";"]


def draw_tokens(statement):
    """The tokens of a `draw`."""
    _, name, arms = statement
    tokens = ["draw", name, "{"]
    for digits, body in arms:
        tokens.append("at")
        tokens.extend([str(digit) for digit in digits])
        tokens.extend(body_tokens(body))
    tokens.append("}")
    return tokens


def use_tokens(statement):
    """The tokens of a `use`."""
    _, name, rank, patience, body, otherwise = statement
    tokens = ["use", name, "rank", str(rank)]
    if patience is None:
        return tokens + body_tokens(body)
    return [*tokens, "patience", str(patience), *body_tokens(body), "else", *body_tokens(otherwise)]


def if_tokens(statement):
    """The tokens of an `if`; an empty `else` is left out."""
    _, gauge, name, n, body, otherwise = statement
    tokens = ["if", gauge, name, str(n), *body_tokens(body)]
    if not otherwise:
        return tokens
    return [*tokens, "else", *body_tokens(otherwise)]
