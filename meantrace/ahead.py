"""Houses that run ahead of each other as far as nothing can reach them any more."""

from meantrace.errors import BadNumber
from meantrace.houseruns import homes_of, trace_of
from meantrace.houses import links_of


class AheadRun:
    """A run of several houses, each at its own clock."""

    def __init__(self, model, houses, tapes):
        self.model = model
        self.links = links_of(model, houses)
        self.homes = homes_of(model, houses, tapes)
        self.dues = {}

    @property
    def clocks(self):
        """The clocks of the houses."""
        return tuple(home.now[0] for home in self.homes)

    @property
    def final(self):
        """The least clock."""
        return min(self.clocks)

    def go(self, house):
        """Do the next tick of a house if it can go; tell whether it could."""
        if not 0 <= house < len(self.homes):
            raise BadNumber(house)
        if not self.can_go(house):
            return False
        sent = self.homes[house].do_tick(self.dues)
        for key in sent:
            self.dues[key] = self.dues.get(key, 0) + 1
        return True

    def can_go(self, house):
        """Whether all that is due at the clock of a house has come."""
        clocks = self.clocks
        ahead = [clocks[source] + length for _, length, source, goal in self.links if goal == house]
        return all([clock > clocks[house] for clock in ahead])

    def trace_below(self, n):
        """The joined events of the ticks below n."""
        return trace_of(self.model, self.homes, n, self.final)
