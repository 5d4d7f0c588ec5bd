"""What points [1] to [62] say of one thing told in several ways, over random models, chains and webs."""

import itertools
import random
import unittest
from fractions import Fraction
from functools import cache

from random_models import random_model, random_queues
from random_webs import fair_plan, frac, pair, random_bend, random_chain, random_web, random_worths
from walks_reference import all_groupings

from meantrace.bends import bent_mean, bent_square, bent_walk, bent_web
from meantrace.chainof import chain_of, states_of
from meantrace.chains import is_chain, walk
from meantrace.claims import decide, judge_breaks, judge_holds
from meantrace.codes import code_of
from meantrace.errors import Parted, TooMany
from meantrace.estimates import plan_mean, plan_square
from meantrace.fairness import decide_plan
from meantrace.flatruns import FlatRun
from meantrace.gains import gain, judge_gain, means, shares_after, worth_of
from meantrace.gaps import best_bend, gap
from meantrace.histories import history, shown_of
from meantrace.latest import judge_ranks, judge_ring, latest
from meantrace.leaves import tree
from meantrace.likeness import alike, chance_of, judge_alike
from meantrace.loose import bounds, judge_within, loosen
from meantrace.lumps import judge_lumps, lumped, lumps
from meantrace.pairs import pair_chain, pairs_of
from meantrace.plainruns import PlainRun
from meantrace.rates import greatest, judge_rate, rate
from meantrace.reaching import judge_reach, reach, reach_within
from meantrace.reading import read_model
from meantrace.spreads import both, spreads
from meantrace.tapes import opposite
from meantrace.waiting import judge_wait, wait
from meantrace.watches import Watcher, never, order, within
from meantrace.webs import is_web, web_of
from meantrace.writing import write_model

ONE, NONE = (1, 1), (0, 1)


@cache
def modelled():
    """Random models that have a chain, with it; those with one stream."""
    found = []
    for seed in range(500):
        model = (random_model, random_queues)[seed % 2](seed)
        try:
            chain = chain_of(model)
        except TooMany:
            continue
        if len(model[2]) == 1:
            found.append((model, chain))
    return found


def marks_of(chain):
    """The marks that a chain shows, and some that it does not."""
    return sorted({mark for row in chain[2] for _, shown, _ in row for mark in shown}) + ["u1", "u2", "u3"]


def worths_of(dice, chain):
    """Worths of some marks."""
    marks = sorted(dice.sample(marks_of(chain), 2))
    return tuple((mark, dice.choice((-3, -1, 1, 2, 5))) for mark in marks)


def run_shown(model, tape, ticks):
    """What a plain run shows, tick by tick, and how many digits it read."""
    run = PlainRun(model, (tape,))
    return [shown_of(run.tick()) for _ in range(ticks)], run.reads[0]


def swapped(model):
    """The model written and read again, with two more statements that show nothing."""
    model = read_model(write_model(model))
    _, base, streams, items, processes = model
    fresh = tuple((*process[:3], (("if", "counter", "zz", 1, (), ()), *process[3]), process[4]) for process in processes)
    return ("model", base, streams, (*items, ("counter", "zz", 0, 9)), fresh)


class ModelsAndWebs(unittest.TestCase):
    def test_there_are_enough(self):
        self.assertGreater(len(modelled()), 40)
        self.assertTrue(all(is_chain(chain) and is_web(web_of(chain)) for _, chain in modelled()))
        self.assertTrue(all(len(states_of(model)) == len(chain[2]) for model, chain in modelled()))

    def test_chances_and_means_of_all_tapes(self):
        dice = random.Random(1)
        for model, chain in modelled():
            try:
                leaves = tree(chain, 4)
            except TooMany:
                continue
            web, worths, mark = web_of(chain), worths_of(dice, chain), marks_of(chain)[0]
            weights = [Fraction(1, model[1] ** len(digits)) for digits, _, _ in leaves]
            hit = [any(mark in shown for shown in told) for _, told, _ in leaves]
            sums = [sum(worth_of(worths, shown) for shown in told) for _, told, _ in leaves]
            self.assertEqual(frac(reach_within(web, mark, 4)[0]), sum((w for w, h in zip(weights, hit) if h), start=Fraction(0)))
            self.assertEqual(frac(means(web, worths, 4)[0]), sum(w * s for w, s in zip(weights, sums)))
            self.assertEqual(greatest(chain, worths, 4), (min(sums), max(sums)))
            ends = [sum((w for w, leaf in zip(weights, leaves) if leaf[2] == state), start=Fraction(0)) for state in range(len(web[1]))]
            self.assertEqual(shares_after(web, 0, 4), tuple(map(pair, ends)))
            rows = dice.sample(leaves, min(3, len(leaves)))
            for _, told, _ in rows:
                same = sum(w for w, leaf in zip(weights, leaves) if leaf[1] == told)
                self.assertEqual(frac(chance_of(web, told)), same)
            # The same tapes, run by the plain run and by flat code.
            for digits, told, _ in rows:
                self.assertEqual(tuple(run_shown(model, digits, 4)[0]), told)
                flat = FlatRun(model, code_of(model), (digits,))
                self.assertEqual(tuple(shown_of(flat.tick()) for _ in range(4)), told)
                self.assertEqual(tuple(shown_of([event for event in history(model, (digits,), ticks=4)[1] if event[0] == tick])
                                       for tick in range(4)), told)

    def test_papers(self):
        dice = random.Random(2)
        parted = 0
        for _, chain in modelled():
            web = web_of(chain)
            for mark in marks_of(chain)[:2]:
                values, ranks, times = wait(web, mark)
                self.assertEqual((values, ranks), reach(web, mark))
                self.assertTrue(judge_reach(web, mark, (values, ranks)))
                self.assertTrue(judge_wait(web, mark, (values, ranks, times)))
                kind = latest(chain, mark)
                if kind[0] == "sure":
                    self.assertTrue(judge_ranks(chain, mark, kind[1]))
                    self.assertEqual(values[0], ONE)
                    self.assertLessEqual(frac(times[0]), kind[1][0])
                    self.assertEqual(reach_within(web, mark, kind[1][0])[0], ONE)
                    self.assertNotEqual(reach_within(web, mark, kind[1][0] - 1)[0], ONE)
                else:
                    self.assertTrue(judge_ring(chain, mark, kind[1:]))
                    self.assertNotEqual(reach_within(web, mark, 60)[0], ONE)
            worths = worths_of(dice, chain)
            paper = rate(chain, worths)
            self.assertTrue(judge_rate(chain, worths, paper))
            try:
                mean_rate, potentials = gain(web, worths)
            except Parted:
                parted += 1
                continue
            self.assertTrue(judge_gain(web, worths, (mean_rate, potentials)))
            # What is greatest is not below the mean.
            self.assertGreaterEqual(frac(paper[0]), frac(mean_rate))
            ahead = sum(frac(share) * frac(part) for share, part in zip(shares_after(web, 0, 9), potentials))
            self.assertEqual(frac(means(web, worths, 9)[0]), 9 * frac(mean_rate) - ahead)
        self.assertLess(parted, len(modelled()) // 2)

    def test_rates_bound_what_runs_show(self):
        dice = random.Random(3)
        for model, chain in modelled():
            worths = worths_of(dice, chain)
            speed, potentials, way, ring = rate(chain, worths)
            least = min(frac(part) for part in potentials if part is not None)
            tape = tuple(dice.randrange(model[1]) for _ in range(600))
            shown, _ = run_shown(model, tape, 20)
            total = 0
            for n, told in enumerate(shown):
                total += worth_of(worths, told)
                self.assertLessEqual(total, (n + 1) * frac(speed) + frac(potentials[0]) - least)
            low, high = greatest(chain, worths, 20)
            self.assertTrue(low <= total <= high)
            # The way and the ring are tapes of a run that has the rate.
            blocks = (*way, *ring, *ring)
            told, read = run_shown(model, tuple(digit for block in blocks for digit in block), len(blocks))
            self.assertEqual(read, sum(len(block) for block in blocks))
            self.assertEqual(sum(worth_of(worths, row) for row in told[len(way):]), 2 * len(ring) * frac(speed))

    def test_claims_in_runs(self):
        dice = random.Random(4)
        for model, chain in modelled():
            first, second = dice.sample(marks_of(chain), 2)
            for watch in (never(first), order(first, second), within(first, second, dice.randint(1, 9))):
                kind, paper = decide(chain, watch)
                if kind == "breaks":
                    self.assertTrue(judge_breaks(chain, watch, paper))
                    shown, read = run_shown(model, tuple(digit for block in paper for digit in block), len(paper))
                    self.assertEqual(self.place_behind(watch, shown)[1], True)
                    self.assertEqual(read, sum(len(block) for block in paper))
                    # One tick less does not break it.
                    self.assertEqual(self.place_behind(watch, shown[:-1])[1], False)
                else:
                    self.assertTrue(judge_holds(chain, watch, paper))
                    shown, read = run_shown(model, tuple(dice.randrange(model[1]) for _ in range(600)), 20)
                    self.assertEqual(self.place_behind(watch, shown)[1], False)

    def place_behind(self, watch, shown):
        watcher = Watcher(watch)
        for told in shown:
            watcher(told)
        return (watcher.place, watcher.broken)

    def test_a_claim_that_a_mark_is_never_shown(self):
        for _, chain in modelled():
            for mark in marks_of(chain):
                kind, paper = decide(chain, never(mark))
                values, ranks = reach(web_of(chain), mark)
                self.assertEqual(kind == "holds", values[0] == NONE)
                if kind == "breaks":
                    self.assertEqual(len(paper), ranks[0])


class AlikeModels(unittest.TestCase):
    def test_models_with_statements_that_show_nothing(self):
        tried = 0
        for model, chain in modelled()[:40]:
            other = web_of(chain_of(swapped(model)))
            web = web_of(chain)
            kind, paper = alike(web, other)
            self.assertEqual(kind, "alike")
            self.assertTrue(judge_alike(web, other, paper))
            tried += 1
            mark = marks_of(chain)[0]
            for n in (1, 3, 30):
                self.assertEqual(reach_within(web, mark, n)[0], reach_within(other, mark, n)[0])
            self.assertEqual(reach(web, mark)[0][0], reach(other, mark)[0][0])
            self.assertEqual(wait(web, mark)[2][0], wait(other, mark)[2][0])
        self.assertGreater(tried, 20)

    def test_lumped_webs_of_models(self):
        dice = random.Random(5)
        smaller = 0
        for _, chain in modelled():
            web = web_of(chain)
            groups = lumps(web)
            self.assertTrue(judge_lumps(web, groups))
            small = lumped(web, groups)
            smaller += len(small[1]) < len(web[1])
            kind, paper = alike(web, small)
            self.assertEqual(kind, "alike")
            self.assertTrue(judge_alike(web, small, paper))
            worths, mark = worths_of(dice, chain), marks_of(chain)[0]
            for way in (lambda w: reach_within(w, mark, 9), lambda w: wait(w, mark)[0], lambda w: wait(w, mark)[2], lambda w: means(w, worths, 9)):
                told = way(small)
                self.assertEqual(way(web), tuple(told[group] for group in groups))
            # A grouping that agrees, told loosely, leaves nothing open.
            if len(small[1]) <= 60:
                loose = loosen(web, groups)
                self.assertTrue(judge_within(web, loose, groups))
                self.assertEqual(bounds(loose, mark, 9), tuple((value, value) for value in reach_within(small, mark, 9)))
        self.assertGreater(smaller, 10)

    def test_unlike_webs_differ_in_a_row_that_runs_show(self):
        dice = random.Random(6)
        unlike = 0
        for (_, chain), (_, other) in zip(modelled(), modelled()[1:]):
            kind, *told = alike(web_of(chain), web_of(other))
            if kind == "unlike":
                unlike += 1
                row, mine, theirs = told
                self.assertNotEqual(mine, theirs)
                for source, chance in ((chain, mine), (other, theirs)):
                    try:
                        leaves = tree(source, len(row))
                    except TooMany:
                        continue
                    self.assertEqual(frac(chance), sum((Fraction(1, source[1] ** len(d)) for d, shown, _ in leaves if shown == row), start=Fraction(0)))
        self.assertGreater(unlike, 20)


class PlansAndBends(unittest.TestCase):
    def test_fair_plans_over_models(self):
        dice = random.Random(7)
        for _, chain in modelled():
            marks = marks_of(chain)
            goal = marks[0]
            plan = fair_plan(dice, goal=goal, marks=tuple(dice.sample(marks[1:], 2)))
            self.assertEqual(decide_plan(plan)[0], "fair")
            web = web_of(chain)
            for ticks in (1, 5, 20):
                mean = plan_mean(web, plan, ticks)
                self.assertEqual(mean, reach_within(web, goal, ticks)[0])
                self.assertGreaterEqual(frac(plan_square(web, plan, ticks)), frac(mean) ** 2)

    def test_plain_counting_is_a_plan_and_a_bend(self):
        plan = lambda goal: ("plan", 2, goal, (), (ONE,), ((((2, ONE, 0),),),))
        for _, chain in modelled():
            web, goal = web_of(chain), marks_of(chain)[0]
            self.assertEqual(decide_plan(plan(goal))[0], "fair")
            below = 1
            for row in web[1]:
                for arc in row:
                    below *= arc[2][1] if below % arc[2][1] else 1
            bend = tuple(tuple(arc[2][0] * (below // arc[2][1]) for arc in row) for row in web[1])
            for n in (1, 6):
                chance = reach_within(web, goal, n)[0]
                self.assertEqual(plan_mean(web, plan(goal), n), chance)
                self.assertEqual(plan_square(web, plan(goal), n), chance)
                self.assertEqual(bent_mean(web, bend, goal, n), chance)
                self.assertEqual(bent_square(web, bend, goal, n), chance)
            self.assertIsNone(gap(web, bend, goal))
            self.assertEqual(bent_web(web, bend), web)

    def test_best_bends_of_models(self):
        dice = random.Random(8)
        walked = 0
        for _, chain in modelled():
            web, goal = web_of(chain), marks_of(chain)[0]
            bend, value = best_bend(web, goal), reach(web, goal)[0][0]
            if value == NONE:
                continue
            self.assertIsNone(gap(web, bend, goal))
            self.assertEqual(reach(bent_web(web, bend), goal)[0][0], ONE)
            tickets, state = [], 0
            for _ in range(100):
                tickets.append(dice.randrange(sum(bend[state])))
                score, used = bent_walk(web, bend, goal, tuple(tickets))
                if score != NONE:
                    self.assertEqual((score, used), (value, len(tickets)))
                    walked += 1
                    break
                above = list(itertools.accumulate(bend[state]))
                state = web[1][state][next(at for at, total in enumerate(above) if total > tickets[-1])][1]
        self.assertGreater(walked, 30)

    def test_bends_of_models_miss_or_not(self):
        dice = random.Random(9)
        found = []
        for _, chain in modelled():
            web, goal = web_of(chain), marks_of(chain)[0]
            bend = random_bend(dice, web, zeros=0.3)
            told = gap(web, bend, goal)
            found.append(told is None)
            for n in range(8):
                missing = frac(reach_within(web, goal, n)[0]) - frac(bent_mean(web, bend, goal, n))
                if told is None or n < told[0]:
                    self.assertEqual(missing, 0)
                elif n == told[0]:
                    self.assertEqual(pair(missing), told[1])
                else:
                    self.assertGreaterEqual(missing, 0)
        self.assertGreater(found.count(False), 5)


class Pairs(unittest.TestCase):
    def test_two_runs_on_common_and_on_opposite_digits(self):
        dice = random.Random(10)
        tried = 0
        sources = [row for row in modelled() if len(row[1][2]) <= 14]
        for k, ((model, left), (other, right)) in enumerate(zip(sources, sources[1:])):
            flip = k % 2
            if model[1] != other[1]:
                continue
            try:
                chain = pair_chain(left, right, flip)
            except TooMany:
                continue
            tried += 1
            self.assertTrue(is_chain(chain))
            self.assertEqual(pairs_of(left, right, flip)[0], (0, 0))
            self.check_runs(dice, (model, other), chain, flip)
            goal = marks_of(left)[0]
            chances = [reach_within(web_of(source), goal, 6)[0] for source in (left, right)]
            self.assertEqual(frac(spreads(left, right, flip, goal, 6)[0]), (frac(chances[0]) + frac(chances[1])) / 2)
            _, one, other_one, two = both(left, right, flip, goal, 6)
            self.assertEqual(frac(one) + frac(two), frac(chances[0]))
            self.assertEqual(frac(other_one) + frac(two), frac(chances[1]))
        self.assertGreater(tried, 10)

    def check_runs(self, dice, models, chain, flip):
        """Two plain runs that read the blocks of a walk of the pair, each as far as it needs."""
        runs = [PlainRun(model, ((),)) for model in models]
        state = 0
        for _ in range(6):
            digits, shown, state = dice.choice(chain[2][state])
            told, most = [], 0
            for sign, run in zip("lr", runs):
                tape = opposite(chain[1], digits) if sign == "r" and flip else digits
                clock, _, here = run.snapshot
                run.tapes = (tape,)
                run.resume((clock, (0,), here))
                told += [sign + "." + mark for mark in shown_of(run.tick())]
                most = max(most, run.reads[0])
            self.assertEqual(tuple(told), shown)
            self.assertEqual(most, len(digits))


class RandomWebs(unittest.TestCase):
    def test_all_ways_to_a_chance(self):
        """The chance within n ticks by equations, walks, plans, bends, groups and bounds."""
        dice = random.Random(11)
        for _ in range(80):
            web = random_web(dice)
            plan, bend = fair_plan(dice), random_bend(dice, web, zeros=0)
            groups = lumps(web)
            for n in (1, 2, 4):
                chance = reach_within(web, "g", n)[0]
                self.assertEqual(plan_mean(web, plan, n), chance)
                self.assertEqual(bent_mean(web, bend, "g", n), chance)
                self.assertEqual(reach_within(lumped(web, groups), "g", n)[0], chance)
                for told in all_groupings(len(web[1])):
                    low, high = bounds(loosen(web, told), "g", n)[0]
                    self.assertTrue(frac(low) <= frac(chance) <= frac(high))
                letters = sorted({arc[0] for row in web[1] for arc in row})
                if len(letters) ** n < 100:
                    rows = [row for row in itertools.product(letters, repeat=n) if any("g" in shown for shown in row)]
                    self.assertEqual(sum((frac(chance_of(web, row)) for row in rows), start=Fraction(0)), frac(chance))

    def test_all_ways_to_a_claim(self):
        dice = random.Random(12)
        for _ in range(150):
            chain, worths = random_chain(dice, most=3), random_worths(dice)
            web = web_of(chain)
            broken = decide(chain, within("a", "b", 2))
            told = [self.holds(shown) for _, shown, _ in tree(chain, 4)]
            if broken[0] == "holds" or len(broken[1]) > 4:
                self.assertTrue(all(told))
            else:
                self.assertFalse(all(told))
                shown, _, _ = walk(chain, tuple(digit for block in broken[1] for digit in block), len(broken[1]))
                self.assertFalse(self.holds(shown))
            kind = latest(chain, "a")
            self.assertEqual(kind[0] == "sure", reach_within(web, "a", len(chain[2]))[0] == ONE)
            self.assertGreaterEqual(len(chain[2]) * 99 * 3 + 1, greatest(chain, worths, 1)[1])

    def holds(self, shown):
        watcher = Watcher(within("a", "b", 2))
        for row in shown:
            watcher(row)
        return not watcher.broken

    def test_equal_arguments_give_equal_results(self):
        dice = random.Random(13)
        for _ in range(30):
            chain, worths, plan = random_chain(dice), random_worths(dice), fair_plan(dice)
            web, other = web_of(chain), random_web(dice)
            bend, groups = random_bend(dice, web), lumps(web)
            calls = [
                lambda: reach(web, "a"), lambda: reach_within(web, "a", 9), lambda: wait(web, "a"), lambda: shares_after(web, 0, 5),
                lambda: means(web, worths, 5), lambda: decide_plan(plan), lambda: plan_mean(web, plan, 4), lambda: plan_square(web, plan, 4),
                lambda: bent_mean(web, bend, "a", 5), lambda: bent_square(web, bend, "a", 5), lambda: bent_web(web, bend),
                lambda: gap(web, bend, "a"), lambda: best_bend(web, "a"), lambda: pair_chain(chain, chain, 1), lambda: pairs_of(chain, chain, 1),
                lambda: spreads(chain, chain, 1, "a", 3), lambda: decide(chain, within("a", "b", 2)), lambda: latest(chain, "a"),
                lambda: rate(chain, worths), lambda: greatest(chain, worths, 7), lambda: alike(web, other), lambda: alike(web, lumped(web, groups)),
                lambda: lumps(web), lambda: loosen(web, groups), lambda: bounds(loosen(web, groups), "a", 4),
            ]
            first = [call() for call in calls]
            again = [call() for call in reversed(calls)]
            self.assertEqual(first, again[::-1])


if __name__ == "__main__":
    unittest.main()
