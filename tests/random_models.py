"""Models that are let, at random from a seed, and tapes for them."""

import random

from meantrace.checks import check
from meantrace.errors import MeanError

ITEMS = {
    "resource": ("r1", "r2"), "store": ("c1", "c2"), "belt": ("b1", "b2"), "counter": ("k1", "k2"),
}
PROCESSES = ("p", "q", "w", "v")
SIMPLE = ("hold", "hold", "mark", "add", "drop", "put", "take", "load", "unload", "interrupt")
BRANCHING = ("draw", "use", "use", "if", "loop", "guard", "guard")


class Maker:
    """Makes one model."""

    def __init__(self, seed):
        self.dice = random.Random(seed)
        self.base = self.dice.choice((2, 2, 3, 6))
        self.streams = ("s", "t")[:self.dice.randint(0, 2)]
        self.items = self.make_items()
        self.names = PROCESSES[:self.dice.randint(1, 4)]
        self.left = 0

    def make_items(self):
        dice = self.dice
        items = []
        for kind, names in ITEMS.items():
            for name in names[:dice.randint(0, 2)]:
                if kind == "resource":
                    spans = [(dice.choice((0, 1, 1, 2, 4)), dice.randint(1, 4))
                             for _ in range(dice.randint(1, 3))]
                    items.append((kind, name, tuple(spans)))
                elif kind == "belt":
                    items.append((kind, name, dice.randint(1, 4), dice.choice((None, 1, 2))))
                else:
                    top = dice.randint(1, 5)
                    items.append((kind, name, dice.randint(0, top), top))
        dice.shuffle(items)
        return tuple(items)

    def of_kind(self, kind):
        return [item for item in self.items if item[0] == kind]

    def model(self):
        processes = []
        for name in self.names:
            self.left = self.dice.randint(2, 14)
            once = self.body(0)
            cycle = self.body(0) + (("hold", self.dice.randint(1, 3)),)
            if self.dice.random() < 0.1:
                cycle = ()
            processes.append(("process", name, self.dice.randint(0, 3), once, cycle))
        return ("model", self.base, self.streams, self.items, tuple(processes))

    def body(self, depth):
        statements = []
        for _ in range(self.dice.choice((0, 1, 2, 2, 3))):
            if self.left > 0:
                self.left -= 1
                statements.append(self.statement(depth))
        return tuple(statements)

    def statement(self, depth):
        dice = self.dice
        if depth < 6 and dice.random() < 0.5:
            made = self.branching(dice.choice(BRANCHING), depth + 1)
        elif dice.random() < 0.02:
            made = (dice.choice(("stop", "end")),)
        else:
            made = self.simple(dice.choice(SIMPLE))
        return made or ("mark", dice.choice("xyz"))

    def simple(self, word):
        dice = self.dice
        if word == "hold":
            return (word, dice.randint(1, 3))
        if word == "mark":
            return (word, dice.choice("abc"))
        if word == "interrupt":
            return (word, dice.choice(self.names))
        kind = {"add": "counter", "drop": "counter", "load": "belt", "unload": "belt"}.get(word, "store")
        items = self.of_kind(kind)
        if not items:
            return None
        item = dice.choice(items)
        if kind == "counter":
            return (word, item[1], dice.randint(1, 4))
        if kind == "belt":
            return (word, item[1])
        parts = dice.sample(items, dice.randint(1, len(items)))
        return (word, tuple((part[1], dice.randint(1, min(2, part[3]))) for part in parts))

    def branching(self, word, depth):
        dice = self.dice
        if word == "loop":
            return (word, dice.randint(1, 3), self.body(depth))
        if word == "guard":
            return (word, self.body(depth), self.body(depth))
        if word == "draw":
            return self.draw(depth)
        if word == "if":
            gauges = [("free", "resource"), ("queue", "resource"), ("store", "store"),
                      ("belt", "belt"), ("counter", "counter")]
            gauge, kind = dice.choice(gauges)
            items = self.of_kind(kind)
            if not items:
                return None
            n = dice.randint(0, 3)
            return (word, gauge, dice.choice(items)[1], n, self.body(depth), self.body(depth))
        items = self.of_kind("resource")
        if not items:
            return None
        patience = dice.choice((None, None, 1, 2))
        otherwise = () if patience is None else self.body(depth)
        name = dice.choice(items)[1]
        return (word, name, dice.randint(0, 3), patience, self.body(depth), otherwise)

    def draw(self, depth):
        if not self.streams:
            return None
        digits = list(range(self.base))
        self.dice.shuffle(digits)
        cuts = sorted(self.dice.sample(range(1, self.base), self.dice.randint(0, self.base - 1)))
        arms = []
        for low, high in zip([0, *cuts], [*cuts, self.base]):
            arms.append((tuple(digits[low:high]), self.body(depth)))
        return ("draw", self.dice.choice(self.streams), tuple(arms))


def random_queues(seed):
    """A model whose processes stand in queues under guard, and interrupt each other."""
    dice = random.Random(seed)
    names = PROCESSES[:dice.randint(2, 4)]
    items = tuple(("resource", name, ((dice.randint(0, 1), dice.randint(1, 4)), (dice.randint(0, 2), dice.randint(1, 4))))
                  for name in ("r1", "r2"))
    processes = []
    for name in names:
        patience = dice.choice((None, 3, 5))
        inner = (("hold", dice.randint(1, 4)), ("use", "r2", 0, None, (("hold", 1),), ()))[:dice.randint(0, 2)]
        asking = ("use", dice.choice(("r1", "r2")), dice.randint(0, 2), patience, inner, ())
        handler = (("mark", "h"),) if dice.random() < 0.5 else (asking,)
        cycle = (("guard", (asking,), handler), ("hold", dice.randint(1, 2)), ("interrupt", dice.choice(names)))
        processes.append(("process", name, dice.randint(0, 2), (), cycle))
    model = ("model", 2, (), items, tuple(processes))
    check(model)
    return model


class HouseMaker(Maker):
    """Makes a model and the houses that cut it: items and streams of their own, and links."""

    def __init__(self, seed):
        super().__init__(seed)
        dice = self.dice
        self.many = dice.randint(1, 3)
        self.houses = list(range(self.many)) + [dice.randrange(self.many) for _ in range(dice.randint(0, 3))]
        dice.shuffle(self.houses)
        self.all_names = ("p", "q", "w", "v", "x", "y")[:len(self.houses)]
        self.owners = {name: dice.randrange(self.many) for name in ("s", "t")}
        self.links = {}
        self.all_items = self.items[:5]
        for item in self.all_items:
            self.owners[item[1]] = dice.randrange(self.many)
        for number in range(dice.randint(1, 3) if self.many > 1 else 0):
            name = f"l{number}"
            source, goal = dice.sample(range(self.many), 2)
            self.links[name] = (source, goal)
            self.all_items += (("belt", name, dice.randint(1, 4), None),)
        items = list(self.all_items)
        dice.shuffle(items)
        self.all_items = tuple(items)

    def settle_in(self, house):
        self.house = house
        self.names = [name for name, other in zip(self.all_names, self.houses) if other == house]
        self.streams = [name for name in ("s", "t") if self.owners[name] == house]
        self.items = [item for item in self.all_items if self.owners.get(item[1]) == house]

    def simple(self, word):
        side = {"load": 0, "unload": 1}.get(word)
        if side is not None and self.dice.random() < 0.8:
            names = [name for name, ends in self.links.items() if ends[side] == self.house]
            if names:
                return (word, self.dice.choice(names))
        return super().simple(word)

    def statement(self, depth):
        made = super().statement(depth)
        return ("stop",) if made == ("end",) and self.many > 1 else made

    def on_links(self):
        """Statements that use the links of the house, so that things do go from house to house."""
        rows = [("load", name) for name, (source, _) in self.links.items() if source == self.house]
        rows += [("unload", name) for name, (_, goal) in self.links.items() if goal == self.house]
        return [row for row in rows if self.dice.random() < 0.6]

    def cut(self):
        processes = []
        for name, house in zip(self.all_names, self.houses):
            self.settle_in(house)
            self.left = self.dice.randint(2, 10)
            once = self.body(1)
            cycle = (*self.body(1), *self.on_links(), ("hold", self.dice.randint(1, 3)))
            processes.append(("process", name, self.dice.randint(0, 3), once, cycle))
        model = ("model", self.base, ("s", "t"), self.all_items, tuple(processes))
        return model, tuple(self.houses)


def random_houses(seed):
    """The first model from this seed on that is let, and the houses that cut it."""
    while True:
        model, houses = HouseMaker(seed).cut()
        try:
            check(model)
        except MeanError:
            seed += 1000003
        else:
            return model, houses


def random_change(model, seed):
    """A changed model: some statements, numbers of items or starts differ, at random."""
    dice = random.Random(seed)
    while True:
        changed = changed_once(model, dice)
        try:
            check(changed)
        except MeanError:
            continue
        return changed


def changed_once(model, dice):
    word, base, streams, items, processes = model
    items, processes = list(items), list(processes)
    kind = dice.random()
    if kind < 0.1 and items:
        at = dice.randrange(len(items))
        item = list(items[at])
        if item[0] == "resource":
            item[2] = tuple((dice.choice((units, 1)), ticks) for units, ticks in item[2])
        elif item[0] == "belt":
            item[2] = dice.randint(1, 4)
        else:
            item[3] = dice.randint(1, 9)
        items[at] = tuple(item)
    elif kind < 0.15:
        at = dice.randrange(len(processes))
        process = list(processes[at])
        process[2] = dice.randint(0, 3)
        processes[at] = tuple(process)
    else:
        at = dice.randrange(len(processes))
        process = list(processes[at])
        which = dice.choice((3, 4))
        process[which] = changed_body(process[which], dice)
        processes[at] = tuple(process)
    return (word, base, streams, tuple(items), tuple(processes))


def changed_body(body, dice):
    """A body in which something was put in, left out, or changed, here or inside."""
    rows = list(body)
    at = dice.randint(0, len(rows))
    kind = dice.random()
    if at == len(rows) or kind < 0.2:
        rows.insert(at, ("mark", dice.choice("xyz")))
    elif kind < 0.3:
        rows.pop(at)
    elif rows[at][0] == "hold":
        rows[at] = ("hold", dice.randint(1, 4))
    elif rows[at][0] == "mark":
        rows[at] = ("mark", dice.choice("xyz"))
    elif rows[at][0] == "loop":
        rows[at] = ("loop", dice.randint(1, 3), changed_body(rows[at][2], dice))
    elif rows[at][0] in ("use", "if", "guard"):
        which = dice.choice((-2, -1))
        if rows[at][0] != "use" or rows[at][3] is not None or which == -2:
            parts = list(rows[at])
            parts[which] = changed_body(parts[which], dice)
            rows[at] = tuple(parts)
    elif rows[at][0] == "draw":
        arms = [(digits, changed_body(inner, dice)) for digits, inner in rows[at][2]]
        rows[at] = (*rows[at][:2], tuple(arms))
    return tuple(rows)


def random_model(seed):
    """The first model from this seed on that is let."""
    while True:
        model = Maker(seed).model()
        try:
            check(model)
        except MeanError:
            seed += 1000003
        else:
            return model


def random_tapes(model, seed, length):
    """A tape for each stream of a model."""
    dice = random.Random(seed)
    return tuple(tuple(dice.randrange(model[1]) for _ in range(length)) for _ in model[2])
