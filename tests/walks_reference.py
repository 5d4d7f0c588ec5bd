"""Chances and means of webs by all of their walks, and by equations over fractions of Python's own."""

from fractions import Fraction

from random_webs import frac


def walks(web, n, state=0):
    """All walks of n ticks: their chance, what they show, and where they end."""
    found = [(Fraction(1), (), state)]
    for _ in range(n):
        found = [(chance * frac(share), (*told, shown), target)
                 for chance, told, here in found for shown, target, share in web[1][here]]
    return found


def solve(matrix, side):
    """The one solution of equations."""
    many = len(matrix)
    rows = [[*row, right] for row, right in zip(matrix, side)]
    for at in range(many):
        pivot = next(k for k in range(at, many) if rows[k][at] != 0)
        rows[at], rows[pivot] = rows[pivot], rows[at]
        rows[at] = [part / rows[at][at] for part in rows[at]]
        for k in range(many):
            if k != at and rows[k][at] != 0:
                rows[k] = [part - rows[k][at] * other for part, other in zip(rows[k], rows[at])]
    return [row[-1] for row in rows]


def least_ticks(web, mark):
    """For each state the least number of ticks in which the mark can be shown, or 0."""
    many = len(web[1])
    found = [0] * many
    for tick in range(1, many + 1):
        fresh = list(found)
        for state, row in enumerate(web[1]):
            if found[state] == 0 and any(
                    (mark in shown) if tick == 1 else found[target] == tick - 1 for shown, target, _ in row):
                fresh[state] = tick
        found = fresh
    return found


def chances_ever(web, mark):
    """For each state the chance that the mark is ever shown."""
    ranks = least_ticks(web, mark)
    many = len(web[1])
    matrix, side = [], []
    for state, row in enumerate(web[1]):
        line, right = [Fraction(0)] * many, Fraction(0)
        line[state] += 1
        if ranks[state]:
            for shown, target, share in row:
                if mark in shown:
                    right += frac(share)
                else:
                    line[target] -= frac(share)
        matrix.append(line)
        side.append(right)
    return solve(matrix, side)


def can_come_to(web, state):
    """The states that can be come to from a state, itself too."""
    found, open_ones = {state}, [state]
    while open_ones:
        for _, target, _ in web[1][open_ones.pop()]:
            if target not in found:
                found.add(target)
                open_ones.append(target)
    return found


def closed_classes(web):
    """The closed classes as sorted lists, ascending."""
    found = []
    for state in range(len(web[1])):
        members = can_come_to(web, state)
        if all(can_come_to(web, other) == members for other in members) and sorted(members) not in found:
            found.append(sorted(members))
    return sorted(found)


def multiples(vectors, target):
    """By what vectors are multiplied in a sum that is the target, or None; the vectors are no sums of each other."""
    rows = [[frac(vector[place]) for vector in vectors] + [frac(target[place])] for place in range(len(target))]
    done = []
    for column in range(len(vectors)):
        pivot = next(row for row in rows if row not in done and row[column] != 0)
        done.append(pivot)
        pivot[:] = [part / pivot[column] for part in pivot]
        for row in rows:
            if row is not pivot and row[column] != 0:
                row[:] = [part - row[column] * other for part, other in zip(row, pivot)]
    if any(row[-1] != 0 for row in rows if not any(row is other for other in done)):
        return None
    return tuple((row[-1].numerator, row[-1].denominator) for row in done)


def all_groupings(many):
    """All groupings of so many states, numbered as they first stand."""
    found = [()]
    for _ in range(many):
        found = [(*groups, group) for groups in found for group in range(max(groups, default=-1) + 2)]
    return found
