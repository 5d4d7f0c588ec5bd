"""The bodies inside of statements. A whole process counts as a statement with two bodies."""

# In the tree the bodies are the last parts of these statements.
FIRST_BODY = {"process": 3, "use": 4, "if": 4, "loop": 2, "guard": 1}


def bodies_of(statement):
    """The bodies of a statement in order."""
    word = statement[0]
    if word == "draw":
        return tuple(body for _, body in statement[2])
    if word in FIRST_BODY:
        return statement[FIRST_BODY[word]:]
    return ()


def body_of(statement, number):
    """The body with this number of a statement that has one."""
    if statement[0] == "draw":
        return statement[2][number][1]
    return statement[FIRST_BODY[statement[0]] + number]
