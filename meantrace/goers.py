"""What processes of plain runs and of flat runs have in common."""


class Goer:
    """A process while a tick is under way. What it is at now is its statement."""

    def __init__(self, number, name, mode, left):
        self.number = number
        self.name = name
        self.mode = mode
        self.left = left
        self.statement = None

    def wait(self, mode, left):
        """The process stays where it is, in this mode."""
        self.mode = mode
        self.left = left

    def pass_time(self, ticks):
        """So many ticks go by."""
        if self.mode in ("held", "asking") and self.left > 0:
            self.left = max(0, self.left - ticks)
