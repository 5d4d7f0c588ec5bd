"""What a plain run shows from its beginning on."""

from meantrace.gauges import gauge_values
from meantrace.plainruns import PlainRun


def history(model, tapes, *, ticks):
    """The frames and the trace of the first ticks of the plain run."""
    run = PlainRun(model, tapes)
    frames = []
    trace = []
    for _ in range(ticks):
        trace.extend(run.tick())
        frames.append(gauge_values(model, run.state))
    return (tuple(frames), tuple(trace))


def shown_of(events):
    """The marks of the `mark` events, in order."""
    return tuple(event[3] for event in events if event[2] == "mark")
