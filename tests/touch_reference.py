"""A second way to first touches, written for the tests alone, by single moves and places."""

from meantrace.errors import Dry
from meantrace.moves import moved, next_mover, passed
from meantrace.states import start_state

BODIES = {"process": 3, "use": 4, "if": 4, "loop": 2, "guard": 1}
NAMED = {"add": 1, "drop": 1, "load": 1, "unload": 1, "use": 1, "if": 2}


def parts(statement):
    """What a statement is without its bodies, and its bodies."""
    if statement[0] == "draw":
        return (statement[:2], [arm[0] for arm in statement[2]]), [arm[1] for arm in statement[2]]
    cut = BODIES.get(statement[0], len(statement))
    return statement[:cut], list(statement[cut:])


def find(process, path):
    """The statement at a path and whether it is the last one of its body; None if there is none."""
    body = (process,)
    for k, number in path:
        if k >= len(body):
            return None
        if number == -1:
            return body[k], k == len(body) - 1
        inner = parts(body[k])[1]
        if number >= len(inner):
            return None
        body = inner[number]
    return None


def is_changed_at(elder, model, number, path):
    here, there = find(elder[4][number], path), find(model[4][number], path)
    if there is None or here[1] != there[1]:
        return True
    (head, inner), (other, bodies) = parts(here[0]), parts(there[0])
    if head != other or [body == () for body in inner] != [body == () for body in bodies]:
        return True
    if here[0][0] in ("put", "take"):
        names = [name for name, _ in here[0][1]]
    else:
        names = [here[0][NAMED[here[0][0]]]] if here[0][0] in NAMED else []
    return any(item != other and item[1] in names for item, other in zip(elder[3], model[3]))


def is_touched(elder, model, state):
    for number, (_, _, place) in enumerate(state[2]):
        if place and is_changed_at(elder, model, number, [(k, b) for k, b, _ in place]):
            return True
    return False


def touches(elder, model, tapes, ticks):
    """All ticks of the run of the elder model that are touches, or the name of the stream that is dry."""
    found = []
    for item, other in zip(elder[3], model[3]):
        if item[0] != "belt" and item[2] != other[2]:
            found = [0]
    state, reads = start_state(elder), [0] * len(tapes)
    for tick in range(ticks):
        touched = is_touched(elder, model, state)
        while next_mover(elder, state) is not None:
            digit = None
            try:
                moved(elder, state, tick, None)
            except Dry as dry:
                stream = elder[2].index(dry.name)
                if reads[stream] == len(tapes[stream]):
                    return dry.name
                digit = tapes[stream][reads[stream]]
                reads[stream] += 1
            _, state = moved(elder, state, tick, digit)
            touched = touched or is_touched(elder, model, state)
        if touched:
            found.append(tick)
        state = passed(elder, state)
    return found if ticks else []
