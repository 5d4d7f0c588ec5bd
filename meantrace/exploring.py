"""States that are numbered as they are first met."""

from meantrace.chains import MOST_STATES
from meantrace.errors import TooMany


def explored(first, branches_of):
    """All states that can be come to, in the order of their numbers, and the branches of each.

    A function tells the branches (digits, shown, state) of a state; here they lead to numbers.
    """
    states = [first]
    numbers = {first: 0}
    rows = []
    while len(rows) < len(states):
        row = []
        for digits, shown, state in branches_of(states[len(rows)]):
            if state not in numbers:
                numbers[state] = len(states)
                states.append(state)
                if len(states) > MOST_STATES:
                    raise TooMany("states")
            row.append((digits, shown, numbers[state]))
        rows.append(tuple(row))
    return (tuple(states), tuple(rows))
