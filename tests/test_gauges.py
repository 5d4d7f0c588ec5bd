"""Point [16]: gauges and their values."""

import unittest

from helpers import EXAMPLE, let

from meantrace.gauges import gauge_values, gauges
from meantrace.plainruns import PlainRun
from meantrace.states import start_state

TEXT = """
model 2 streams {
counter k 2 of 9 ; belt b length 3 ; resource r plan 1 for 9 ; store c 4 of 5 ; resource q plan 2 for 9 ;
store d 0 of 3 ; counter m 0 of 1 ; belt e length 1 ;
process p at 0 { use q rank 0 { use r rank 0 { use q rank 0 { take c 1 ; load b ; add k 1 ; hold 9 ; } } } }
cycle { }
process w at 0 { use r rank 0 patience 2 { } else { hold 9 ; } } cycle { }
process v at 0 { load b ; load e ; put d 3 ; use r rank 0 { } } cycle { }
}
"""


class Gauges(unittest.TestCase):
    def test_pairs_in_their_order(self):
        self.assertEqual(gauges(let(TEXT)), (
            ("busy", "r"), ("queue", "r"), ("busy", "q"), ("queue", "q"), ("store", "c"), ("store", "d"),
            ("belt", "b"), ("belt", "e"), ("counter", "k"), ("counter", "m"),
        ))
        self.assertEqual(gauges(EXAMPLE), ())

    def test_values(self):
        model = let(TEXT)
        state = start_state(model)
        self.assertEqual(gauge_values(model, state), (0, 0, 0, 0, 4, 0, 0, 0, 2, 0))
        run = PlainRun(model, ())
        run.tick()
        self.assertEqual(gauge_values(model, run.state), (1, 2, 2, 0, 3, 3, 2, 1, 3, 0))
        run.tick()
        run.tick()
        self.assertEqual(gauge_values(model, run.state), (1, 1, 2, 0, 3, 3, 2, 1, 3, 0))
        self.assertEqual(gauge_values(EXAMPLE, start_state(EXAMPLE)), ())


if __name__ == "__main__":
    unittest.main()
