"""The chain of a model."""

from meantrace.exploring import explored
from meantrace.histories import shown_of
from meantrace.states import start_state
from meantrace.ways import ways


def states_of(model):
    """The states of a model in the order of their numbers."""
    return explored_states(model)[0]


def chain_of(model):
    """The chain of a model."""
    return ("chain", model[1], explored_states(model)[1])


def explored_states(model):
    """The states that a model can come to, and the branches of each."""
    def branches_of(state):
        """The ways of a state, with their marks."""
        return [(digits, shown_of(events), target) for digits, events, target in ways(model, state)]
    return explored(start_state(model), branches_of)
