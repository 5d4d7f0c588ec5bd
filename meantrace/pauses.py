"""When a body pauses, and how many moves it is good for."""

from meantrace.bodies import bodies_of

MOVES_OF_TWO = ("hold", "use", "guard")


def pauses(body):
    """Whether a body pauses."""
    return any([is_pause(statement) for statement in body])


def is_pause(statement):
    """Whether a statement pauses."""
    word = statement[0]
    if word in ("hold", "stop", "end"):
        return True
    if word in ("draw", "if", "guard"):
        return all([pauses(body) for body in bodies_of(statement)])
    if word in ("use", "loop"):
        return pauses(bodies_of(statement)[0])
    return False


def moves_of(body):
    """The moves of a body."""
    return sum([moves_in(statement) for statement in body])


def moves_in(statement):
    """The moves of a statement."""
    word = statement[0]
    own = 2 if word in MOVES_OF_TWO else 1
    inside = sum([moves_of(body) for body in bodies_of(statement)])
    if word == "loop":
        return own + statement[1] * inside
    return own + inside
