"""A second way to guess runs, written for the tests alone.

A house has no state here: whenever something is asked, it is run anew from its beginning, with the
letters that have reached it, as a plain run of its model whose belts are changed between the ticks.
"""

from meantrace.houses import house_models, links_of
from meantrace.plainruns import PlainRun


class GuessReference:
    def __init__(self, model, houses, tapes):
        self.models = house_models(model, houses)
        self.links = {link[0]: link for link in links_of(model, houses)}
        self.belts = [item[1] for item in model[3] if item[0] == "belt"]
        self.tapes = tapes
        self.clocks = [0] * len(self.models)
        self.letters = []
        self.sums = {}

    def rows(self, house, ticks):
        """The events of the first ticks of a house, by what has reached it."""
        return house_rows(self.models[house], house, self.links, self.belts, self.tapes, self.sums, ticks)

    def loads(self, events):
        """The letters for the things that are loaded on links, with the step 1."""
        return [(1, name, tick + self.links[name][1]) for tick, _, word, name, _ in events
                if word == "load" and name in self.links]

    def go(self, house):
        tick = self.clocks[house]
        events = self.rows(house, tick + 1)[tick]
        self.letters += self.loads(events)
        self.clocks[house] += 1
        return tick

    def bring(self, number):
        step, belt, due = self.letters[number]
        house = self.links[belt][3]
        there = max(0, self.sums.get((belt, due), 0))
        rows = self.rows(house, self.clocks[house])
        del self.letters[number]
        self.sums[(belt, due)] = self.sums.get((belt, due), 0) + step
        if there == max(0, self.sums[(belt, due)]) or self.clocks[house] <= due:
            return False
        self.clocks[house] = due
        for events in rows[due:]:
            self.letters += [(-1, name, later) for _, name, later in self.loads(events)]
        return True

    def final(self):
        return min(self.clocks + [letter[2] for letter in self.letters])


def house_rows(model, house, links, belts, tapes, sums, ticks):
    """The events of each of the first ticks of a house to which so many things come."""
    run = PlainRun(model, tapes)
    rows = []
    for tick in range(ticks):
        run.snapshot = changed(run.snapshot, belts, lambda belt, things: things + (0,) * (
            sums.get((belt, tick), 0) if belt in links and links[belt][3] == house else 0))
        rows.append(run.tick())
        run.snapshot = changed(run.snapshot, belts, lambda belt, things: (
            () if belt in links and links[belt][2] == house else things))
    return rows


def changed(snapshot, belts, change):
    clock, reads, state = snapshot
    rows = tuple(change(belt, things) for belt, things in zip(belts, state[5]))
    return (clock, reads, (*state[:5], rows, *state[6:]))
