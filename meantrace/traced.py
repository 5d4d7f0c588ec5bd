"""Tallies of gauges from the trace alone."""

from meantrace.tallies import tally_of
from meantrace.visits import leaver_of

# The words of events that make a gauge of this kind more, and less. Those of a counter tell its
# new value instead.
MORE = {"busy": "get", "belt": "load", "store": "put", "counter": None}
LESS = {"busy": "give", "belt": "unload", "store": "take", "counter": None}


def traced_tally(model, trace, gauge, a, b):
    """The tally of a gauge from a to b."""
    meter = Meter(model, gauge)
    worths = []
    at = 0
    for tick in range(b):
        while at < len(trace) and trace[at][0] <= tick:
            meter.note(trace[at])
            at += 1
        worths.append(meter.worth())
    return tally_of(tuple(worths[a:]))


class Meter:
    """A gauge that goes along with the events of a trace."""

    def __init__(self, model, gauge):
        self.kind, self.name = gauge
        self.level = start_level(model, gauge)
        self.waiting = {}

    def worth(self):
        """The value of the gauge behind the events so far."""
        return len(self.waiting) if self.kind == "queue" else self.level

    def note(self, event):
        """An event goes by."""
        _, _, word, name, n = event
        if self.kind == "queue":
            self.note_queue(event)
        elif name == self.name and self.kind == "counter" and word in ("add", "drop"):
            self.level = n
        elif name == self.name and word == MORE[self.kind]:
            self.level += n if self.kind == "store" else 1
        elif name == self.name and word == LESS[self.kind]:
            self.level -= n if self.kind == "store" else 1

    def note_queue(self, event):
        """An event goes by the gauge of a queue."""
        _, process, word, name, _ = event
        if word == "ask" and name == self.name:
            self.waiting[process] = True
        leaver = leaver_of(event, self.name)
        if leaver in self.waiting:
            self.waiting.pop(leaver)


def start_level(model, gauge):
    """The value of a gauge ahead of all events; that of a queue does not count here."""
    for item in model[3]:
        if gauge == (item[0], item[1]) and item[0] in ("store", "counter"):
            return item[2]
    return 0
