"""Trials of a run."""


class Trial:
    """Puts a run back, at the end of a block, to where it was at its beginning."""

    def __init__(self, run):
        self.run = run
        self.kept = None

    def __enter__(self):
        self.kept = self.run.now
        return self.run

    def __exit__(self, kind, value, trace):
        run = self.run
        run.now = self.kept
