"""Houses that go at any time, and are taken back when something comes too late."""

from meantrace.errors import BadNumber
from meantrace.houseruns import homes_of, trace_of
from meantrace.houses import links_of


class GuessRun:
    """A run of several houses; things that are sent, and that are not sent after all, are letters."""

    def __init__(self, model, houses, tapes):
        self.model = model
        self.goals = {link[0]: link[3] for link in links_of(model, houses)}
        self.homes = homes_of(model, houses, tapes)
        self.letters = []
        self.dues = {}

    @property
    def clocks(self):
        """The clocks of the houses."""
        return tuple(home.now[0] for home in self.homes)

    @property
    def under_way(self):
        """The letters that are under way."""
        return tuple(self.letters)

    @property
    def final(self):
        """The tick below which no house is taken back any more."""
        return min([*self.clocks, *[letter[2] for letter in self.letters]])

    def go(self, house):
        """Do the next tick of a house with what has come to it; return the number of the tick."""
        if not 0 <= house < len(self.homes):
            raise BadNumber(house)
        home = self.homes[house]
        clock = home.now[0]
        sent = home.do_tick(self.dues)
        self.letters.extend([(1, belt, due) for belt, due in sent])
        return clock

    def bring(self, k):
        """A letter reaches its house; tell whether the house was taken back."""
        if not 0 <= k < len(self.letters):
            raise BadNumber(k)
        step, belt, due = self.letters.pop(k)
        elder = self.dues.get((belt, due), 0)
        self.dues[(belt, due)] = elder + step
        home = self.homes[self.goals[belt]]
        if max(0, elder) == max(0, elder + step) or home.now[0] <= due:
            return False
        dropped = home.take_back(due)
        self.letters.extend([(-1, other, later) for other, later in dropped])
        return True

    def trace_below(self, n):
        """The joined events of the ticks below n."""
        return trace_of(self.model, self.homes, n, self.final)
