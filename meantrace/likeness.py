"""Webs that show the same with the same chances."""

from meantrace.shares import product_of, sum_of, total_of
from meantrace.spans import Table


def chance_of(web, row):
    """The chance that a walk from state 0 shows just this row in its first ticks."""
    chances = {0: (1, 1)}
    for shown in row:
        ahead = {}
        for state, chance in chances.items():
            for told, target, share in web[1][state]:
                if told == shown:
                    ahead[target] = sum_of(ahead.get(target, (0, 1)), product_of(chance, share))
        chances = ahead
    return total_of(list(chances.values()))


class JointTable(Table):
    """The joint vectors of rows of shown of two webs."""

    def __init__(self, web, other):
        self.many = len(web[1])
        rows = joint_rows(web, other)
        self.shown = sorted({arc[0] for row in rows for arc in row})
        first = tuple((1, 1) if state in (0, self.many) else (0, 1) for state in range(len(rows)))
        super().__init__(first, len(self.shown))
        self.arcs = [[(state, target, share) for state, row in enumerate(rows) for told, target, share in row
                      if told == shown] for shown in self.shown]

    def behind(self, vector, letter):
        """The joint vector behind a letter."""
        parts = [(0, 1) for _ in vector]
        for state, target, share in self.arcs[letter]:
            parts[target] = sum_of(parts[target], product_of(vector[state], share))
        return tuple(parts)

    def is_even(self, vector):
        """Whether both webs have the same chance."""
        return total_of(vector[:self.many]) == total_of(vector[self.many:])


def joint_rows(web, other):
    """The rows of both webs, with the states of the second one behind those of the first one."""
    many = len(web[1])
    behind = [[(shown, many + target, share) for shown, target, share in row] for row in other[1]]
    return [*web[1], *behind]


def alike(web, other):
    """Either that two webs are alike, with a paper, or the least row that tells them apart."""
    table = JointTable(web, other)
    letters, paper = table.closed()
    if paper is not None:
        return ("alike", paper)
    row = tuple(table.shown[letter] for letter in letters)
    return ("unlike", row, chance_of(web, row), chance_of(other, row))


def judge_alike(web, other, paper):
    """Whether a paper shows that two webs are alike."""
    return JointTable(web, other).is_closed_by(paper)
