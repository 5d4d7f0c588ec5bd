"""Point [2]: whatever numbers, strings and lengths stand in a told shape, a judge returns a bool."""

import random
import unittest

from random_webs import (fair_plan, random_bend, random_chain, random_fraction, random_plan, random_web, random_worths)

from meantrace.bends import is_bend
from meantrace.chains import is_chain
from meantrace.claims import decide, judge_breaks, judge_holds
from meantrace.errors import Parted
from meantrace.fairness import decide_plan, judge_fair
from meantrace.gains import gain, judge_gain
from meantrace.latest import judge_ranks, judge_ring, latest
from meantrace.likeness import alike, judge_alike
from meantrace.loose import is_loose, judge_within, loosen
from meantrace.lumps import judge_lumps, lumped, lumps
from meantrace.plans import is_plan
from meantrace.rates import judge_rate, rate
from meantrace.reaching import judge_reach, reach
from meantrace.waiting import judge_wait, wait
from meantrace.watches import is_watch, never, order, within
from meantrace.webs import is_web, web_of

# The shapes: "n" an integer, "f" a fraction, "s" a string, a list of one shape for a tuple of any length, a tuple
# of shapes for one with this number of parts, {"or": shape} for a part that can be None.
SHOWN = ["s"]
ARC = (SHOWN, "n", "f")
BLOCK = ["n"]
SHAPES = {
    "chain": ("s", "n", [[(BLOCK, SHOWN, "n")]]),
    "web": ("s", [[ARC]]),
    "plan": ("s", "n", "s", ["s"], ["f"], [[[("n", "f", "n")]]]),
    "reach": (["f"], ["n"]),
    "wait": (["f"], ["n"], [{"or": "f"}]),
    "gain": ("f", ["f"]),
    "table": ([["f"]], [[["f"]]]),
    "bend": [["n"]],
    "watch": ("s", [[({"or": "s"}, "n")]], ["n"]),
    "pairs": [("n", "n")],
    "blocks": [BLOCK],
    "ranks": ["n"],
    "ring": ([BLOCK], [BLOCK]),
    "rate": ("f", [{"or": "f"}], [BLOCK], [BLOCK]),
    "groups": ["n"],
    "loose": ("s", [[(SHOWN, "n", "f", "f")]]),
}
NUMBERS = (-10 ** 399, -60, -3, -2, -1, 0, 1, 2, 3, 4, 5, 6, 7, 12, 60, 199, 200, 201, 10 ** 399)


def made(dice, shape):
    """A small value of a shape."""
    if shape == "n":
        return dice.choice(NUMBERS)
    if shape == "f":
        return dice.choice(((0, 1), (1, 1), (1, 2), (-1, 2), (10 ** 399, 1), (1, 10 ** 399), random_fraction(dice)))
    if shape == "s":
        return dice.choice(("", "a", "b", "g", "chain", "x" * 300))
    if isinstance(shape, dict):
        return None if dice.random() < 0.5 else made(dice, shape["or"])
    if isinstance(shape, list):
        return tuple(made(dice, shape[0]) for _ in range(dice.choice((0, 1, 1, 2))))
    return tuple(made(dice, part) for part in shape)


def spoiled(dice, value, shape):
    """A value of the shape in which something is changed at one place."""
    if isinstance(shape, dict):
        if value is None or dice.random() < 0.4:
            return made(dice, shape)
        return spoiled(dice, value, shape["or"])
    if isinstance(shape, str):
        return made(dice, shape)
    if isinstance(shape, tuple):
        at = dice.randrange(len(shape))
        return (*value[:at], spoiled(dice, value[at], shape[at]), *value[at + 1:])
    at = dice.randrange(len(value) + 1)
    way = dice.random()
    if at == len(value) or way < 0.1:
        return (*value[:at], made(dice, shape[0]), *value[at:])
    if way < 0.2:
        return value[:at] + value[at + 1:]
    if way < 0.3:
        return value[:at + 1] + value[at:]
    if way < 0.35:
        return value[::-1]
    if way < 0.4:
        return ()
    return (*value[:at], spoiled(dice, value[at], shape[0]), *value[at + 1:])


def sources(dice):
    """Judges with what they judge, which they take."""
    chain = random_chain(dice, chance=0.7)
    web, plan, worths = web_of(chain), fair_plan(dice), random_worths(dice)
    groups = lumps(web)
    rows = [
        ("chain", is_chain, chain), ("web", is_web, web), ("plan", is_plan, random_plan(dice)), ("plan", is_plan, plan),
        ("reach", lambda paper: judge_reach(web, "a", paper), reach(web, "a")),
        ("wait", lambda paper: judge_wait(web, "a", paper), wait(web, "a")),
        ("table", lambda paper: judge_fair(plan, paper), decide_plan(plan)[1]),
        ("bend", lambda bend: is_bend(web, bend), random_bend(dice, web)),
        ("watch", is_watch, dice.choice((never("a"), order("a", "b"), within("a", "b", 3)))),
        ("rate", lambda paper: judge_rate(chain, worths, paper), rate(chain, worths)),
        ("table", lambda paper: judge_alike(web, lumped(web, groups), paper), alike(web, lumped(web, groups))[1]),
        ("groups", lambda told: judge_lumps(web, told), groups),
        ("loose", is_loose, loosen(web, groups)),
        ("groups", lambda told: judge_within(web, loosen(web, groups), told), groups),
    ]
    try:
        rows.append(("gain", lambda paper: judge_gain(web, worths, paper), gain(web, worths)))
    except Parted:
        pass
    watch = dice.choice((never("a"), order("a", "b")))
    kind, paper = decide(chain, watch)
    if kind == "holds":
        rows.append(("pairs", lambda pairs: judge_holds(chain, watch, pairs), paper))
    else:
        rows.append(("blocks", lambda blocks: judge_breaks(chain, watch, blocks), paper))
    kind, *paper = latest(chain, "a")
    if kind == "sure":
        rows.append(("ranks", lambda ranks: judge_ranks(chain, "a", ranks), paper[0]))
    else:
        rows.append(("ring", lambda ring: judge_ring(chain, "a", ring), tuple(paper)))
    return rows


class Judges(unittest.TestCase):
    def test_spoiled_papers(self):
        dice = random.Random(2)
        taken = {}
        for _ in range(150):
            for name, judge, paper in sources(dice):
                self.assertIs(judge(paper), True, name)
                for _ in range(8):
                    wrong = paper
                    for _ in range(dice.choice((1, 1, 2, 4))):
                        wrong = spoiled(dice, wrong, SHAPES[name])
                    told = judge(wrong)
                    self.assertIn(told, (True, False))
                    self.assertIs(type(told), bool, name)
                    taken.setdefault(name, []).append(told)
        for name, told in taken.items():
            self.assertIn(False, told, name)
            self.assertGreater(told.count(False), len(told) // 3, name)

    def test_values_that_are_made_up(self):
        dice = random.Random(22)
        for _ in range(60):
            for name, judge, _ in sources(dice):
                for _ in range(6):
                    self.assertIs(type(judge(made(dice, SHAPES[name]))), bool, name)


if __name__ == "__main__":
    unittest.main()
