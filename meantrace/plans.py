"""Plans of experiment, and what rows of letters are worth in them."""

from meantrace.shares import make_fraction, product_of, sum_of, total_of

MOST_MARKS = 3
MOST_STAGES = 5
MOST_COPIES = 4


def is_plan(plan):
    """Whether a tuple is a plan."""
    word, base, goal, marks, scores, rows = plan
    if word != "plan" or not 2 <= base <= 6 or len(marks) > MOST_MARKS:
        return False
    if goal in marks or len({mark for mark in marks}) < len(marks):
        return False
    if not 1 <= len(scores) <= MOST_STAGES or len(rows) != len(scores):
        return False
    if not all([len(row) == len(marks) + 1 for row in rows]):
        return False
    return all([is_list(base, copies, len(rows)) for row in rows for copies in row])


def is_list(base, copies, many):
    """Whether these are copies of a list, in a plan with so many stages."""
    if len(copies) > MOST_COPIES:
        return False
    return all([1 <= keep <= base and 0 <= to < many for keep, _, to in copies])


def letter_of(plan, shown):
    """The letter of a shown."""
    marks = plan[3]
    for number, mark in enumerate(marks):
        if mark in shown:
            return number
    return len(marks)


def vector_of(plan, letters):
    """The vector of a row of letters."""
    vector = first_vector(plan)
    for letter in letters:
        vector = vector_behind(plan, vector, letter)
    return vector


def first_vector(plan):
    """The vector of the empty row."""
    return tuple((1, 1) if stage == 0 else (0, 1) for stage in range(len(plan[4])))


def vector_behind(plan, vector, letter):
    """The vector behind a letter."""
    base = plan[1]
    parts = [(0, 1) for _ in vector]
    for stage, row in enumerate(plan[5]):
        for keep, factor, to in row[letter]:
            made = product_of(make_fraction(keep, base), factor)
            parts[to] = sum_of(parts[to], product_of(vector[stage], made))
    return tuple(parts)


def value_of(plan, letters):
    """The value of a row of letters."""
    return scored(plan, vector_of(plan, letters))


def scored(plan, vector):
    """The sum of the parts of a vector times the scores of their stages."""
    return total_of([product_of(part, score) for part, score in zip(vector, plan[4])])
