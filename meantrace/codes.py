"""Processes as flat code."""


def code_of(model):
    """The codes of the processes of a model."""
    return tuple(process_code(process) for process in model[4])


def process_code(process):
    """The code of a process."""
    _, _, start, once, cycle = process
    code = [("wait", start), *body_code(once, 1)]
    if not cycle:
        return (*code, ("done",))
    first = len(code)
    return (*code, *body_code(cycle, first), ("jump", first))


def body_code(body, at):
    """The code of a body that begins at this address."""
    code = []
    for statement in body:
        code.extend(statement_code(statement, at + len(code)))
    return code


def statement_code(statement, at):
    """The code of a statement that begins at this address."""
    word = statement[0]
    if word == "draw":
        return draw_code(statement, at)
    if word == "loop":
        return [("loop", statement[1]), *body_code(statement[2], at + 1), ("again", at + 1)]
    if word == "use":
        *head, body, otherwise = statement
        return choice_code(head, body_code(body, at + 1) + [("give", statement[1])], otherwise, at)
    if word == "if":
        *head, body, otherwise = statement
        return choice_code(head, body_code(body, at + 1), otherwise, at)
    if word == "guard":
        *head, body, handler = statement
        return choice_code(head, body_code(body, at + 1) + [("unguard",)], handler, at)
    return [statement]


def choice_code(head, inside, otherwise, at):
    """An instruction with the address of its second body, the code inside, and this body."""
    behind = at + 1 + len(inside)
    if not otherwise:
        return [(*head, behind), *inside]
    rest = body_code(otherwise, behind + 1)
    return [(*head, behind + 1), *inside, ("jump", behind + 1 + len(rest)), *rest]


def draw_code(statement, at):
    """The code of a `draw`."""
    _, stream, arms = statement
    codes = []
    starts = {}
    here = at + 1
    for digits, body in arms:
        for digit in digits:
            starts[digit] = here
        codes.append(body_code(body, here))
        here += len(codes[-1]) + 1
    # No jump stands behind the last body.
    end = here - 1
    addresses = tuple(starts[digit] for digit in range(len(starts)))
    code = [("draw", stream, addresses)]
    for number, inside in enumerate(codes):
        code.extend(inside)
        if number + 1 < len(codes):
            code.append(("jump", end))
    return code
