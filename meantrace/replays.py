"""Traces that are played again."""

from meantrace.errors import Dry
from meantrace.plainruns import PlainRun


def tapes_of(model, trace):
    """The tapes that a trace tells, one for each stream."""
    tapes = {stream: [] for stream in model[2]}
    for _, _, word, name, n in trace:
        if word == "draw" and name in tapes:
            tapes[name].append(n)
    return tuple(tuple(tapes[stream]) for stream in model[2])


def judge_trace(model, ticks, trace):
    """Whether a trace is that of the first so many ticks for some tapes."""
    tapes = tapes_of(model, trace)
    for tape in tapes:
        if not all([0 <= digit < model[1] for digit in tape]):
            return False
    run = PlainRun(model, tapes)
    at = 0
    for _ in range(ticks):
        try:
            events = run.tick()
        except Dry:
            return False
        if trace[at:at + len(events)] != events:
            return False
        at += len(events)
    return at == len(trace)
