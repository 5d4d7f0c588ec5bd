"""Whether a plan is fair."""

from meantrace.plans import first_vector, scored, value_of, vector_behind
from meantrace.shares import total_of
from meantrace.spans import Table


class PlanTable(Table):
    """The vectors of the rows of letters of a plan."""

    def __init__(self, plan):
        super().__init__(first_vector(plan), len(plan[3]) + 1)
        self.plan = plan

    def behind(self, vector, letter):
        """The vector behind a letter."""
        return vector_behind(self.plan, vector, letter)

    def is_even(self, vector):
        """Whether what a vector is worth is 1."""
        return scored(self.plan, vector) == (1, 1)


def decide_plan(plan):
    """Either that a plan is fair, with a paper, or the least row whose value is not 1."""
    letters, paper = PlanTable(plan).closed()
    if paper is None:
        return ("unfair", letters, value_of(plan, letters))
    return ("fair", paper)


def judge_fair(plan, paper):
    """Whether a paper shows that a plan is fair."""
    if not PlanTable(plan).is_closed_by(paper):
        return False
    return all([total_of(step) == (1, 1) for row in paper[1] for step in row])
