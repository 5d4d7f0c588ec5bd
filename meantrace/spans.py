"""Vectors that are sums of multiples of others, and tables that close."""

from meantrace.equations import whole_row, without
from meantrace.shares import make_fraction
from meantrace.sums import denominator_of, times


class Span:
    """Some vectors, none of which is a sum of multiples of those ahead of it.

    The rows are sums of multiples of the vectors, too, each with a pivot: a place that no row
    behind it has. The vector number k stands in them in the column -1 - k.
    """

    def __init__(self):
        self.rows = []

    def multiples_of(self, vector):
        """By what the vectors are multiplied in a sum that is this one; None, and it is put to them."""
        here = -1 - len(self.rows)
        fractions = {place: part for place, part in enumerate(vector)}
        fractions[here] = (1, 1)
        row = whole_row(fractions)
        for pivot, elder in self.rows:
            if pivot in row:
                row = without(row, elder, pivot)
        places = [place for place in row if place >= 0]
        if places:
            self.rows.append((min(places), row))
            return None
        return [make_fraction(-row.get(-1 - k, 0), row[here]) for k in range(len(self.rows))]


class Table:
    """Vectors of rows of letters; a row of letters is a row of numbers here.

    A class below tells the first vector, the vector behind a letter, and what must hold for all.
    """

    def __init__(self, first, letters):
        self.first = first
        self.letters = letters

    def behind(self, vector, letter):
        """The vector behind a letter."""
        return vector

    def is_even(self, vector):
        """Whether for this vector holds what must hold."""
        return vector == self.first

    def closed(self):
        """Either (row, None) with the least row for which it does not hold, or (None, paper).

        The vector behind a letter is the same sum of multiples as the vector is of others, so only
        those that are none are gone on from. The vectors are met in ascending order of their rows.
        """
        if not self.is_even(self.first):
            return ((), None)
        span = Span()
        span.multiples_of(self.first)
        found = [((), self.first)]
        steps = []
        while len(steps) < len(found):
            row, vector = found[len(steps)]
            told = []
            for letter in range(self.letters):
                ahead = self.behind(vector, letter)
                if not self.is_even(ahead):
                    return ((*row, letter), None)
                multiples = span.multiples_of(ahead)
                if multiples is None:
                    multiples = [(0, 1) for _ in found] + [(1, 1)]
                    found.append(((*row, letter), ahead))
                told.append(multiples)
            steps.append(told)
        return (None, paper_of([vector for _, vector in found], steps))

    def is_closed_by(self, paper):
        """Whether the vectors of a paper have what must hold, and are closed by its steps."""
        vectors, steps = paper
        if not vectors or vectors[0] != self.first or len(steps) != len(vectors):
            return False
        if not all([len(vector) == len(self.first) and self.is_even(vector) for vector in vectors]):
            return False
        if not all([len(row) == self.letters for row in steps]):
            return False
        if not all([len(step) == len(vectors) for row in steps for step in row]):
            return False
        mixer = Mixer(vectors)
        for vector, row in zip(vectors, steps):
            for letter, step in enumerate(row):
                if mixer.mixed(step) != self.behind(vector, letter):
                    return False
        return True


def paper_of(vectors, steps):
    """The vectors and steps as tuples, each step with a fraction for each vector."""
    rows = []
    for told in steps:
        row = []
        for step in told:
            missing = len(vectors) - len(step)
            row.append(tuple(step + [(0, 1)] * missing))
        rows.append(tuple(row))
    return (tuple(vectors), tuple(rows))


class Mixer:
    """Sums of multiples of some vectors; the parts at each place have one denominator here."""

    def __init__(self, vectors):
        self.columns = []
        for place in range(len(vectors[0])):
            parts = [vector[place] for vector in vectors]
            below = denominator_of(parts)
            self.columns.append((below, [times(part, below) for part in parts]))

    def mixed(self, step):
        """The sum of the vectors, each multiplied by its fraction."""
        under = denominator_of(step)
        used = [(at, times(fraction, under)) for at, fraction in enumerate(step) if fraction[0] != 0]
        return tuple(
            make_fraction(sum([column[at] * number for at, number in used]), below * under)
            for below, column in self.columns
        )
