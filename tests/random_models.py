"""Models that are let, at random from a seed, and tapes for them."""

import random

from meantrace.checks import check
from meantrace.errors import MeanError

ITEMS = {
    "resource": ("r1", "r2"), "store": ("c1", "c2"), "belt": ("b1", "b2"), "counter": ("k1", "k2"),
}
PROCESSES = ("p", "q", "w", "v")
SIMPLE = ("hold", "hold", "mark", "add", "drop", "put", "take", "load", "unload", "interrupt")
BRANCHING = ("draw", "use", "use", "if", "loop", "guard", "guard")


class Maker:
    """Makes one model."""

    def __init__(self, seed):
        self.dice = random.Random(seed)
        self.base = self.dice.choice((2, 2, 3, 6))
        self.streams = ("s", "t")[:self.dice.randint(0, 2)]
        self.items = self.make_items()
        self.names = PROCESSES[:self.dice.randint(1, 4)]
        self.left = 0

    def make_items(self):
        dice = self.dice
        items = []
        for kind, names in ITEMS.items():
            for name in names[:dice.randint(0, 2)]:
                if kind == "resource":
                    spans = [(dice.choice((0, 1, 1, 2, 4)), dice.randint(1, 4))
                             for _ in range(dice.randint(1, 3))]
                    items.append((kind, name, tuple(spans)))
                elif kind == "belt":
                    items.append((kind, name, dice.randint(1, 4), dice.choice((None, 1, 2))))
                else:
                    top = dice.randint(1, 5)
                    items.append((kind, name, dice.randint(0, top), top))
        dice.shuffle(items)
        return tuple(items)

    def of_kind(self, kind):
        return [item for item in self.items if item[0] == kind]

    def model(self):
        processes = []
        for name in self.names:
            self.left = self.dice.randint(2, 14)
            once = self.body(0)
            cycle = self.body(0) + (("hold", self.dice.randint(1, 3)),)
            if self.dice.random() < 0.1:
                cycle = ()
            processes.append(("process", name, self.dice.randint(0, 3), once, cycle))
        return ("model", self.base, self.streams, self.items, tuple(processes))

    def body(self, depth):
        statements = []
        for _ in range(self.dice.choice((0, 1, 2, 2, 3))):
            if self.left > 0:
                self.left -= 1
                statements.append(self.statement(depth))
        return tuple(statements)

    def statement(self, depth):
        dice = self.dice
        if depth < 6 and dice.random() < 0.5:
            made = self.branching(dice.choice(BRANCHING), depth + 1)
        elif dice.random() < 0.02:
            made = (dice.choice(("stop", "end")),)
        else:
            made = self.simple(dice.choice(SIMPLE))
        return made or ("mark", dice.choice("xyz"))

    def simple(self, word):
        dice = self.dice
        if word == "hold":
            return (word, dice.randint(1, 3))
        if word == "mark":
            return (word, dice.choice("abc"))
        if word == "interrupt":
            return (word, dice.choice(self.names))
        kind = {"add": "counter", "drop": "counter", "load": "belt", "unload": "belt"}.get(word, "store")
        items = self.of_kind(kind)
        if not items:
            return None
        item = dice.choice(items)
        if kind == "counter":
            return (word, item[1], dice.randint(1, 4))
        if kind == "belt":
            return (word, item[1])
        parts = dice.sample(items, dice.randint(1, len(items)))
        return (word, tuple((part[1], dice.randint(1, min(2, part[3]))) for part in parts))

    def branching(self, word, depth):
        dice = self.dice
        if word == "loop":
            return (word, dice.randint(1, 3), self.body(depth))
        if word == "guard":
            return (word, self.body(depth), self.body(depth))
        if word == "draw":
            return self.draw(depth)
        if word == "if":
            gauges = [("free", "resource"), ("queue", "resource"), ("store", "store"),
                      ("belt", "belt"), ("counter", "counter")]
            gauge, kind = dice.choice(gauges)
            items = self.of_kind(kind)
            if not items:
                return None
            n = dice.randint(0, 3)
            return (word, gauge, dice.choice(items)[1], n, self.body(depth), self.body(depth))
        items = self.of_kind("resource")
        if not items:
            return None
        patience = dice.choice((None, None, 1, 2))
        otherwise = () if patience is None else self.body(depth)
        name = dice.choice(items)[1]
        return (word, name, dice.randint(0, 3), patience, self.body(depth), otherwise)

    def draw(self, depth):
        if not self.streams:
            return None
        digits = list(range(self.base))
        self.dice.shuffle(digits)
        cuts = sorted(self.dice.sample(range(1, self.base), self.dice.randint(0, self.base - 1)))
        arms = []
        for low, high in zip([0, *cuts], [*cuts, self.base]):
            arms.append((tuple(digits[low:high]), self.body(depth)))
        return ("draw", self.dice.choice(self.streams), tuple(arms))


def random_model(seed):
    """The first model from this seed on that is let."""
    while True:
        model = Maker(seed).model()
        try:
            check(model)
        except MeanError:
            seed += 1000003
        else:
            return model


def random_tapes(model, seed, length):
    """A tape for each stream of a model."""
    dice = random.Random(seed)
    return tuple(tuple(dice.randrange(model[1]) for _ in range(length)) for _ in model[2])
