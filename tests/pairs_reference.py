"""All pairs of a tape and coins that decide an estimate, by the digits that it is short of."""

from fractions import Fraction

from meantrace.errors import Dry


def deciding(run, base, coin_base):
    """For each pair that decides: its weight and what is returned; `run` takes a tape and coins."""
    found = []
    open_pairs = [((), ())]
    while open_pairs:
        tape, coins = open_pairs.pop()
        try:
            told = run(tape, coins)
        except Dry as error:
            if error.name == "tape":
                open_pairs.extend(((*tape, digit), coins) for digit in range(base))
            else:
                open_pairs.extend((tape, (*coins, digit)) for digit in range(coin_base))
            continue
        assert told[1:] == (len(tape), len(coins)), "each digit is read"
        found.append((Fraction(1, base ** len(tape) * coin_base ** len(coins)), told[0]))
    return found
