"""Random chains, webs, plans and bends, from seeds that the tests give."""

from fractions import Fraction

from meantrace.shares import make_fraction

MARKS = ("a", "b", "g")


def pair(fraction):
    """A fraction of Python's own as a pair."""
    return (fraction.numerator, fraction.denominator)


def frac(told):
    """A pair as a fraction of Python's own."""
    return Fraction(*told)


def random_set(dice, base, most):
    """A complete set of tapes, ascending."""
    tapes = [()]
    for _ in range(dice.randint(0, most)):
        tape = tapes.pop(dice.randrange(len(tapes)))
        tapes.extend((*tape, digit) for digit in range(base))
    return sorted(tapes)


def random_shown(dice, marks=MARKS, chance=0.4):
    if dice.random() > chance:
        return ()
    return tuple(dice.choice(marks) for _ in range(dice.randint(1, 3)))


def random_chain(dice, most=4, base=None, marks=MARKS, chance=0.4, splits=2):
    base = base or dice.randint(2, 3)
    many = dice.randint(1, most)
    rows = []
    for _ in range(many):
        tapes = random_set(dice, base, splits)
        rows.append(tuple((tape, random_shown(dice, marks, chance), dice.randrange(many)) for tape in tapes))
    return ("chain", base, tuple(rows))


def random_web(dice, most=4, marks=MARKS, chance=0.4, arcs=3):
    many = dice.randint(1, most)
    rows = []
    for _ in range(many):
        heads = {}
        for _ in range(dice.randint(1, arcs)):
            heads[(random_shown(dice, marks, chance), dice.randrange(many))] = dice.randint(1, 4)
        total = sum(heads.values())
        rows.append(tuple((*head, make_fraction(heads[head], total)) for head in sorted(heads)))
    return ("web", tuple(rows))


def random_worths(dice):
    marks = sorted(dice.sample(["a", "b", "g", "z"], dice.randint(0, 3)))
    return tuple((mark, dice.choice((-99, -2, -1, 0, 1, 3, 99))) for mark in marks)


def random_fraction(dice):
    return make_fraction(dice.randint(-3, 4), dice.randint(1, 3))


def random_plan(dice, stages=3, most=2, goal="g"):
    many = dice.randint(1, stages)
    marks = tuple(dice.sample(["a", "b", "c"], dice.randint(0, 2)))
    base = dice.randint(2, 3)
    rows = []
    for _ in range(many):
        row = []
        for _ in range(len(marks) + 1):
            row.append(tuple((dice.randint(1, base), random_fraction(dice), dice.randrange(many))
                             for _ in range(dice.randint(0, most))))
        rows.append(tuple(row))
    scores = tuple(random_fraction(dice) for _ in range(many))
    return ("plan", base, goal, marks, scores, tuple(rows))


def fair_plan(dice, stages=3, most=3, goal="g", marks=None):
    """A plan in which each list keeps the worth of its stage, so that it is fair."""
    many = dice.randint(1, stages)
    marks = marks or tuple(dice.sample(["a", "b", "c"], dice.randint(0, 2)))
    base = dice.randint(2, 3)
    scores = [Fraction(1)] + [Fraction(dice.choice((1, 2, 3)), dice.randint(1, 3)) for _ in range(many - 1)]
    rows = []
    for stage in range(many):
        row = []
        for _ in range(len(marks) + 1):
            copies = []
            left = scores[stage]
            entries = dice.randint(1, most)
            for at in range(entries):
                part = left if at == entries - 1 else left / 2
                left -= part
                keep, to = dice.randint(1, base), dice.randrange(many)
                copies.append((keep, pair(part / scores[to] * Fraction(base, keep)), to))
            row.append(tuple(copies))
        rows.append(tuple(row))
    return ("plan", base, goal, marks, tuple(pair(score) for score in scores), tuple(rows))


def random_bend(dice, web, zeros=0.2):
    rows = []
    for row in web[1]:
        numbers = [0 if dice.random() < zeros else dice.randint(1, 3) for _ in row]
        if not any(numbers):
            numbers[dice.randrange(len(numbers))] = dice.randint(1, 3)
        rows.append(tuple(numbers))
    return tuple(rows)
