"""The bodies inside of statements. A whole process counts as a statement with two bodies."""

# In the tree the bodies are the last parts of these statements.
FIRST_BODY = {"process": 3, "use": 4, "if": 4, "loop": 2, "guard": 1}

NAMING = ("add", "drop", "load", "unload", "interrupt", "draw", "use")


def bodies_of(statement):
    """The bodies of a statement in order."""
    word = statement[0]
    if word == "draw":
        return tuple(body for _, body in statement[2])
    if word in FIRST_BODY:
        return statement[FIRST_BODY[word]:]
    return ()


def bare(statement):
    """A statement without its bodies; a `draw` keeps the digits of its arms."""
    word = statement[0]
    if word == "draw":
        return (word, statement[1], tuple(digits for digits, _ in statement[2]))
    if word in FIRST_BODY:
        return statement[:FIRST_BODY[word]]
    return statement


def body_of(statement, number):
    """The body with this number of a statement that has one."""
    if statement[0] == "draw":
        return statement[2][number][1]
    return statement[FIRST_BODY[statement[0]] + number]


def statements_in(body):
    """All statements of a body, each ahead of those inside of it."""
    rows = []
    for statement in body:
        rows.append(statement)
        for inner in bodies_of(statement):
            rows.extend(statements_in(inner))
    return rows


def names_in(statement):
    """The names of streams, items and processes that a statement names, itself."""
    word = statement[0]
    if word in ("put", "take"):
        return [name for name, _ in statement[1]]
    if word == "if":
        return [statement[2]]
    if word in NAMING:
        return [statement[1]]
    return []
