"""The examples of the document."""

import unittest

from meantrace.batches import warm_up
from meantrace.chainof import chain_of
from meantrace.checks import check
from meantrace.claims import decide
from meantrace.codes import code_of
from meantrace.errors import BadText, Dry
from meantrace.fairness import decide_plan
from meantrace.plainruns import PlainRun
from meantrace.plainvalues import write_value
from meantrace.reading import read_model
from meantrace.shares import make_fraction
from meantrace.tapes import is_complete
from meantrace.waiting import wait
from meantrace.watches import never, order
from meantrace.webs import web_of
from meantrace.witnesses import witness
from meantrace.writing import write_model


class Examples(unittest.TestCase):
    def test_fractions_and_tapes(self):
        self.assertEqual(make_fraction(6, -4), (-3, 2))
        self.assertIs(is_complete(2, ((0,), (1, 0), (1, 1))), True)

    def test_texts(self):
        text = ("model 2 streams s { process p at 0 { } cycle { draw s { at 0 { mark a ; } at 1 { } } "
                "hold 1 ; } }")
        self.assertEqual(read_model(text), ('model', 2, ('s',), (), (('process', 'p', 0, (), (('draw', 's', (((0,), (('mark', 'a'),)), ((1,), ()))), ('hold', 1))),)))
        with self.assertRaises(BadText) as caught:
            read_model('model 2 streams { } x')
        self.assertEqual(caught.exception.at, 5)
        self.assertEqual(write_model(('model', 3, (), (('store', 'bin', 0, 5),), ())),
                         'model 3 streams {\nstore bin 0 of 5 ;\n}\n')

    def test_check(self):
        self.assertEqual(check(('model', 2, ('s',), (), (('process', 'p', 0, (), (('draw', 's', (((0,), (('mark', 'a'),)), ((1,), ()))), ('hold', 1))),))), (9,))

    def test_runs(self):
        run = PlainRun(('model', 2, ('s',), (), (('process', 'p', 0, (), (('draw', 's', (((0,), (('mark', 'a'),)), ((1,), ()))), ('hold', 1))),)), ((0, 1),))
        self.assertEqual(run.tick(), ((0, 'p', 'wake', '', 0), (0, 'p', 'draw', 's', 0), (0, 'p', 'mark', 'a', 0), (0, 'p', 'hold', '', 1)))
        run = PlainRun(('model', 2, ('s',), (), (('process', 'p', 0, (), (('draw', 's', (((0,), (('mark', 'a'),)), ((1,), ()))), ('hold', 1))),)), ((),))
        with self.assertRaises(Dry) as caught:
            run.tick()
        self.assertEqual(caught.exception.name, 's')

    def test_code(self):
        self.assertEqual(code_of(('model', 2, ('s',), (), (('process', 'p', 0, (), (('draw', 's', (((0,), (('mark', 'a'),)), ((1,), ()))), ('hold', 1))),))),
                         ((('wait', 0), ('draw', 's', (2, 4)), ('mark', 'a'), ('jump', 4), ('hold', 1), ('jump', 1)),))

    def test_values_and_warm_up(self):
        self.assertEqual(write_value((1, 'a', None, ())), '(1,"a",none,())')
        self.assertEqual(warm_up((9, 1, 1, 1)), 1)

    def test_chain(self):
        self.assertEqual(chain_of(('model', 2, ('s',), (), (('process', 'p', 0, (), (('draw', 's', (((0,), (('mark', 'a'),)), ((1,), ()))), ('hold', 1))),))),
                         ('chain', 2, ((((0,), ('a',), 1), ((1,), (), 1)), (((0,), ('a',), 1), ((1,), (), 1)))))

    def test_wait(self):
        self.assertEqual(wait(web_of(chain_of(('model', 2, ('s',), (), (('process', 'p', 0, (), (('draw', 's', (((0,), (('mark', 'a'),)), ((1,), ()))), ('hold', 1))),)))), 'a'),
                         (((1, 1), (1, 1)), (1, 1), ((2, 1), (2, 1))))

    def test_plans(self):
        self.assertEqual(decide_plan(('plan', 2, 'g', (), ((1, 1),), ((((2, (2, 1), 0),),),))), ('unfair', (0,), (2, 1)))
        self.assertEqual(decide_plan(('plan', 2, 'g', (), ((1, 1),), ((((1, (2, 1), 0),),),))),
                         ('fair', ((((1, 1),),), ((((1, 1),),),))))
        self.assertEqual(witness(('plan', 2, 'g', (), ((1, 1),), ((((2, (2, 1), 0),),),)), (0,)),
                         ('model', 2, (), (), (('process', 'p', 0, (('hold', 1), ('mark', 'g')), ()),)))

    def test_claims(self):
        self.assertEqual(order('a', 'b'), ('watch', ((('a', 1), ('b', 2), (None, 0)), ((None, 1),), ((None, 2),)), (2,)))
        self.assertEqual(decide(chain_of(('model', 2, ('s',), (), (('process', 'p', 0, (), (('draw', 's', (((0,), (('mark', 'a'),)), ((1,), ()))), ('hold', 1))),))), never('a')),
                         ('breaks', ((0,),)))


if __name__ == "__main__":
    unittest.main()
