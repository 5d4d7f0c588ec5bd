"""Models in which a plan scores what a row of letters is worth."""


def witness(plan, letters):
    """The model whose marks make a row of letters, and which shows the goal at last."""
    _, _, goal, marks, _, _ = plan
    once = []
    for letter in letters:
        if letter < len(marks):
            once.append(("mark", marks[letter]))
        once.append(("hold", 1))
    once.append(("mark", goal))
    return ("model", 2, (), (), (("process", "p", 0, tuple(once), ()),))
