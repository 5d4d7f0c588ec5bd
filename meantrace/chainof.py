"""The chain of a model."""

from meantrace.chains import MOST_STATES
from meantrace.errors import TooMany
from meantrace.histories import shown_of
from meantrace.states import start_state
from meantrace.ways import ways


def states_of(model):
    """The states of a model in the order of their numbers."""
    return tuple(explored(model)[0])


def chain_of(model):
    """The chain of a model."""
    return ("chain", model[1], tuple(explored(model)[1]))


def explored(model):
    """The states that a model can come to, and the branches of each."""
    states = [start_state(model)]
    numbers = {states[0]: 0}
    rows = []
    while len(rows) < len(states):
        row = []
        for digits, events, state in ways(model, states[len(rows)]):
            if state not in numbers:
                numbers[state] = len(states)
                states.append(state)
                if len(states) > MOST_STATES:
                    raise TooMany("states")
            row.append((digits, shown_of(events), numbers[state]))
        rows.append(tuple(row))
    return (states, rows)
