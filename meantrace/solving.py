"""Values that are sums over each other."""

from meantrace.equations import whole_row, without
from meantrace.shares import product_of, quotient_of, sum_of


def solved(sums, many):
    """For each state its values, so many, one for each constant.

    A state has a tuple of constants, and the parts of a sum over states that are all in the dict.
    From each state something is lost on the way, so that there is one answer.
    """
    rows = {state: equation(state, sums[state]) for state in sums}
    steps = []
    while rows:
        state = cheapest(rows)
        pivot = rows.pop(state)
        steps.append((state, pivot))
        for other in list(rows):
            if state in rows[other]:
                rows[other] = without(rows[other], pivot, state)
    return values_back(steps, many)


def equation(state, told):
    """The equation that a sum tells of a state; the constants have the columns -1, -2, and so on."""
    constants, parts = told
    row = {column: (-part[0], part[1]) for column, part in parts.items()}
    row[state] = sum_of(row.get(state, (0, 1)), (1, 1))
    for k, constant in enumerate(constants):
        row[-1 - k] = (-constant[0], constant[1])
    return whole_row(row)


def cheapest(rows):
    """The state whose equation changes the fewest numbers when it is used up."""
    uses = {}
    for row in rows.values():
        for column in row:
            uses[column] = uses.get(column, 0) + 1
    return min([((len(rows[state]) - 1) * (uses[state] - 1), state) for state in rows])[1]


def values_back(steps, many):
    """The values of all states; an equation has only states that come behind it."""
    values = {}
    for state, row in reversed(steps):
        values[state] = tuple(value_in(row, state, values, k) for k in range(many))
    return values


def value_in(row, state, values, k):
    """The value of a state for one constant by an equation in which all others are known."""
    total = (row.get(-1 - k, 0), 1)
    for column, number in row.items():
        if column >= 0 and column != state:
            total = sum_of(total, product_of((number, 1), values[column][k]))
    return quotient_of(total, (-row[state], 1))
