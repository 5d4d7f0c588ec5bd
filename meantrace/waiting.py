"""How long it takes until a mark is shown that is sure to come."""

from meantrace.reaching import judge_reach, reach
from meantrace.shares import product_of, sum_of
from meantrace.solving import solved
from meantrace.sums import hit_sum


def wait(web, mark):
    """The paper of `reach`, and for each state with the value 1 the mean number of ticks."""
    rows = web[1]
    values, ranks = reach(web, mark)
    sums = {}
    for state, value in enumerate(values):
        if value == (1, 1):
            sums[state] = (((1, 1),), hit_sum(rows[state], mark)[1])
    found = solved(sums, 1)
    times = tuple(found[state][0] if state in found else None for state in range(len(rows)))
    return (values, ranks, times)


def judge_wait(web, mark, paper):
    """Whether a paper tells the chances and the mean numbers of ticks."""
    values, ranks, times = paper
    if not judge_reach(web, mark, (values, ranks)) or len(times) != len(values):
        return False
    if not all([(time is None) == (value != (1, 1)) for value, time in zip(values, times)]):
        return False
    rows = web[1]
    return all([time is None or time_behind(rows[state], mark, times) == time for state, time in enumerate(times)])


def time_behind(row, mark, times):
    """The mean number of ticks of a state, by those of the next states."""
    total = (1, 1)
    for shown, target, share in row:
        if mark not in shown:
            total = sum_of(total, product_of(share, times[target]))
    return total
