"""Runs that are kept while the model or the tapes change."""

from meantrace.errors import BadUse
from meantrace.plainruns import PlainRun
from meantrace.touches import first_touch, is_changed


class KeptRun:
    """The first ticks of a run, with snapshots at the clocks 0, every, 2 * every, .. among them.

    `last` is the snapshot behind the ticks that are known.
    """

    def __init__(self, model, tapes, every):
        self.model = model
        self.tapes = tapes
        self.every = every
        self.rows = []
        self.ran = 0
        self.begin()

    def begin(self):
        """Know nothing but the beginning."""
        self.last = PlainRun(self.model, self.tapes).snapshot
        self.kept = [self.last]

    @property
    def known(self):
        """How many ticks are known."""
        return len(self.rows)

    @property
    def work(self):
        """How many ticks were run to tell traces."""
        return self.ran

    def trace_to(self, n):
        """The trace of the ticks below n."""
        if n > len(self.rows):
            self.run_to(n)
        return tuple(event for events in self.rows[:n] for event in events)

    def run_to(self, n):
        """Run on from what is known. Nothing is kept before all of it is done."""
        run = PlainRun(self.model, self.tapes)
        run.resume(self.last)
        rows = []
        kept = []
        for tick in range(len(self.rows), n):
            rows.append(run.tick())
            if (tick + 1) % self.every == 0:
                kept.append(run.snapshot)
        self.rows.extend(rows)
        self.kept.extend(kept)
        self.ran += len(rows)
        self.last = run.snapshot

    def change(self, model):
        """Put a changed model in the place of the model; return how many ticks are known now."""
        if not is_changed(self.model, model):
            raise BadUse("model")
        touch = first_touch(self.model, model, self.tapes, len(self.rows))
        self.model = model
        return self.forget_from(touch)

    def redraw(self, tapes):
        """Put other tapes in the place of the tapes; return how many ticks are known now."""
        touch = self.first_other_digit(tapes)
        self.tapes = tapes
        return self.forget_from(touch)

    def first_other_digit(self, tapes):
        """The first known tick in which a digit was read that these tapes do not have, or None."""
        fresh = {stream: tape for stream, tape in zip(self.model[2], tapes)}
        reads = {stream: 0 for stream in fresh}
        for tick, events in enumerate(self.rows):
            for _, _, word, name, n in events:
                if word == "draw":
                    at = reads[name]
                    if at >= len(fresh[name]) or fresh[name][at] != n:
                        return tick
                    reads[name] = at + 1
        return None

    def forget_from(self, touch):
        """Go back to the last snapshot that is kept ahead of a touch; return what is known then."""
        if touch is not None:
            many = touch // self.every
            self.rows = self.rows[:many * self.every]
            self.kept = self.kept[:many + 1]
            self.last = self.kept[many]
        if not self.rows:
            self.begin()
        return len(self.rows)
