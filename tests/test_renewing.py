"""Point [32]: records of houses, and how they are renewed."""

import random
import unittest

from guess_reference import house_rows
from helpers import let
from random_models import random_change, random_houses, random_tapes

from meantrace.errors import Dry, Split
from meantrace.histories import history
from meantrace.houses import house_models, links_of
from meantrace.joining import join_events
from meantrace.renewing import records, renewed

TEXT = """model 2 streams s {{ belt b length 2 ; belt e length {} ; store c 0 of 9 ;
process p at 0 {{ load b ; load b ; }} cycle {{ hold {} ; load b ; }}
process q at 0 {{ }} cycle {{ unload b ; mark {} ; load e ; hold 1 ; }}
process w at 0 {{ }} cycle {{ unload e ; draw s {{ at 0 {{ }} at 1 {{ mark x ; }} }} {} }}
process v at 0 {{ hold 3 ; put c 1 ; }} cycle {{ hold 9 ; }} }}"""
TAPES = ((0, 1) * 20,)
HOUSES = (1, 0, 2, 3)


def make(length=3, hold=4, mark="a", more="hold 1 ;"):
    return let(TEXT.format(length, hold, mark, more))


def told_dues(links, rows, house, ticks):
    """The dues of what comes to a house by its links, from records."""
    found = []
    for belt, length, source, goal in links:
        if goal == house:
            outlets = [link for link in links if link[2] == source]
            sent = rows[source][2][[link[0] for link in outlets].index(belt)]
            found.append(tuple(tick + length for tick in sent if tick + length < ticks))
    return tuple(found)


def run_house(model, houses, tapes, house, inputs, ticks):
    """The record of a house to which these dues come."""
    links = links_of(model, houses)
    sums = {}
    for link, row in zip([link for link in links if link[3] == house], inputs):
        for due in row:
            sums[(link[0], due)] = sums.get((link[0], due), 0) + 1
    belts = [item[1] for item in model[3] if item[0] == "belt"]
    rows = house_rows(house_models(model, houses)[house], house, {link[0]: link for link in links}, belts, tapes, sums, ticks)
    sent = [tuple(tick for tick, events in enumerate(rows) for event in events if event[2:4] == ("load", link[0]))
            for link in links if link[2] == house]
    return (inputs, tuple(rows), tuple(sent))


def renewed_slowly(elder, model, houses, tapes, rows, ticks):
    """The renewed records and counts, round by round as the document tells."""
    links = links_of(model, houses)
    elders, models = house_models(elder, houses), house_models(model, houses)
    counts = [0] * len(models)
    while True:
        dues = [told_dues(links, rows, house, ticks) for house in range(len(models))]
        due = [house for house in range(len(models))
               if (models[house] != elders[house] and not counts[house]) or dues[house] != rows[house][0]]
        if not due:
            return rows, tuple(counts)
        rows = tuple(run_house(model, houses, tapes, house, dues[house], ticks) if house in due else row
                     for house, row in enumerate(rows))
        counts = [count + (house in due) for house, count in enumerate(counts)]


class Records(unittest.TestCase):
    def test_by_hand(self):
        model = let("""model 2 streams { belt b length 2 ; belt e length 1 ;
            process p at 0 { load b ; load b ; hold 3 ; load b ; } cycle { }
            process q at 0 { unload b ; load e ; hold 1 ; unload b ; load e ; load e ; } cycle { } }""")
        wake = (0, "p", "wake", "", 0)
        rows = records(model, (0, 1), (), 4)
        self.assertEqual(len(rows), 2)
        inputs, events, sent = rows[0]
        # Nothing unloads e, so it is no link.
        self.assertEqual((inputs, sent), ((), ((0, 0, 3),)))
        self.assertEqual(events, (
            (wake, (0, "p", "load", "b", 0), (0, "p", "load", "b", 0), (0, "p", "hold", "", 3)), (), (),
            ((3, "p", "wake", "", 0), (3, "p", "load", "b", 0)),
        ))
        inputs, events, sent = rows[1]
        self.assertEqual((inputs, sent), (((2, 2),), ()))
        self.assertEqual(events, (
            ((0, "q", "wake", "", 0),), (),
            ((2, "q", "unload", "b", 0), (2, "q", "load", "e", 0), (2, "q", "hold", "", 1)),
            ((3, "q", "wake", "", 0), (3, "q", "unload", "b", 0), (3, "q", "load", "e", 0), (3, "q", "load", "e", 0)),
        ))

    def test_things_that_are_due_beyond_the_ticks(self):
        for ticks in range(12):
            for house, (inputs, events, sent) in enumerate(records(make(), HOUSES, TAPES, ticks)):
                self.assertEqual(len(events), ticks)
                for row in inputs:
                    self.assertTrue(all(due < ticks for due in row))
                    self.assertEqual(row, tuple(sorted(row)))
        # What is sent is told also if it is not due any more.
        rows = records(make(), HOUSES, TAPES, 2)
        self.assertEqual([row[2] for row in rows], [((),), ((0, 0),), (), ()])
        self.assertEqual([row[0] for row in rows], [((),), (), ((),), ()])
        rows = records(make(), HOUSES, TAPES, 3)
        self.assertEqual([row[2] for row in rows], [((2,),), ((0, 0),), (), ()])
        self.assertEqual([row[0] for row in rows], [((2, 2),), (), ((),), ()])

    def test_0_ticks(self):
        self.assertEqual(records(make(), HOUSES, ((),), 0), (
            (((),), (), ((),)), ((), (), ((),)), (((),), (), ()), ((), (), ()),
        ))
        self.assertEqual(records(make(), (0, 0, 0, 0), ((),), 0), (((), (), ()),))

    def test_joined_they_are_the_plain_run(self):
        for seed in range(80):
            model, houses = random_houses(seed)
            tapes = random_tapes(model, seed, 300)
            rows = records(model, houses, tapes, 30)
            trace = history(model, tapes, ticks=30)[1]
            joined = ()
            for tick in range(30):
                joined += join_events(model, tuple(row[1][tick] for row in rows))
            self.assertEqual(joined, trace)
            for house, row in enumerate(rows):
                links = links_of(model, houses)
                self.assertEqual(row[0], told_dues(links, rows, house, 30))
                self.assertEqual(row, run_house(model, houses, tapes, house, row[0], 30))

    def test_dry(self):
        with self.assertRaises(Dry) as caught:
            records(make(), HOUSES, ((0,),), 30)
        self.assertEqual(caught.exception.name, "s")
        model = let("""model 2 streams s t { process p at 0 { draw s { at 0 1 { } } } cycle { }
            process q at 0 { draw t { at 0 1 { } } } cycle { } }""")
        with self.assertRaises(Dry) as caught:
            records(model, (0, 1), ((), ()), 1)
        self.assertIn(caught.exception.name, ("s", "t"))
        self.assertEqual(len(records(model, (0, 1), ((0,), (0,)), 1)), 2)

    def test_split(self):
        with self.assertRaises(Split) as caught:
            records(make(more="put c 1 ; hold 1 ;"), HOUSES, TAPES, 3)
        self.assertEqual(caught.exception.name, "c")


class Renewed(unittest.TestCase):
    def assert_renewed(self, counts, elder, model, ticks=20):
        before = records(elder, HOUSES, TAPES, ticks)
        after = records(model, HOUSES, TAPES, ticks)
        self.assertEqual(renewed(elder, model, HOUSES, TAPES, before, ticks), (after, counts))
        self.assertEqual(before, records(elder, HOUSES, TAPES, ticks))

    def test_nothing_is_changed(self):
        self.assert_renewed((0, 0, 0, 0), make(), make())

    def test_a_house_that_sends_the_same(self):
        self.assert_renewed((1, 0, 0, 0), make(), make(mark="b"))
        self.assert_renewed((0, 0, 1, 0), make(), make(more="mark y ; hold 1 ;"))

    def test_a_house_that_sends_other_things(self):
        # First p is run, then q by what comes from it, then w.
        self.assert_renewed((1, 1, 1, 0), make(), make(hold=3))
        self.assert_renewed((1, 1, 1, 0), make(hold=1), make(hold=9))

    def test_what_is_sent_too_late_does_not_matter(self):
        self.assert_renewed((0, 1, 0, 0), make(hold=4), make(hold=5), 5)
        self.assert_renewed((0, 1, 0, 0), make(hold=4), make(hold=5), 6)
        self.assert_renewed((1, 1, 0, 0), make(hold=4), make(hold=5), 7)

    def test_0_ticks(self):
        self.assert_renewed((0, 1, 0, 0), make(hold=4), make(hold=5), 0)
        self.assert_renewed((0, 0, 0, 0), make(), make(), 0)

    def test_an_item_is_in_the_models_of_all_houses(self):
        # With another length the dues of e are others at once.
        self.assert_renewed((1, 1, 1, 1), make(), make(length=1))

    def test_both_ends_of_a_link(self):
        # q is run at once, and again by what comes from p; w only by what comes from q then.
        self.assert_renewed((2, 1, 1, 0), make(), make(hold=3, mark="b"))
        self.assert_renewed((1, 1, 2, 0), make(), make(hold=3, more="hold 1 ; mark y ;"))

    def test_a_house_alone(self):
        elder, model = make(), make(mark="b")
        before = records(elder, (0, 0, 0, 0), TAPES, 9)
        self.assertEqual(renewed(elder, model, (0, 0, 0, 0), TAPES, before, 9), (records(model, (0, 0, 0, 0), TAPES, 9), (1,)))

    def test_split(self):
        before = records(make(), HOUSES, TAPES, 3)
        with self.assertRaises(Split) as caught:
            renewed(make(), make(more="put c 1 ; hold 1 ;"), HOUSES, TAPES, before, 3)
        self.assertEqual(caught.exception.name, "c")

    def test_random_changes(self):
        ticks, several = 16, {}
        for seed in range(150):
            elder, houses = random_houses(seed)
            dice = random.Random(seed)
            tapes = random_tapes(elder, seed, 400)
            model = elder
            for _ in range(dice.randint(1, 4)):
                model = random_change(model, dice.random())
            try:
                if [link[::2] for link in links_of(elder, houses)] != [link[::2] for link in links_of(model, houses)]:
                    continue
            except Split:
                continue
            before = records(elder, houses, tapes, ticks)
            after, counts = renewed(elder, model, houses, tapes, before, ticks)
            self.assertEqual(after, records(model, houses, tapes, ticks), seed)
            self.assertEqual((after, counts), renewed_slowly(elder, model, houses, tapes, before, ticks), seed)
            for count in counts:
                several[count] = several.get(count, 0) + 1
        self.assertGreater(len(several), 2)


if __name__ == "__main__":
    unittest.main()
