"""The first fault of a tree, or the bounds of moves of its processes."""

from meantrace.bodies import bodies_of
from meantrace.errors import BadNumber, BadUse, Endless, TooLarge, Twice, Unknown
from meantrace.pauses import moves_of, pauses

MOST_STATEMENTS = 60
MOST_AROUND = 6
MOST_PARTS = 4
MOST_SPANS = 4

NEEDED = {
    "add": "counter", "drop": "counter", "load": "belt", "unload": "belt", "interrupt": "process",
    "draw": "stream", "use": "resource",
}
GAUGED = {
    "free": "resource", "queue": "resource", "store": "store", "belt": "belt", "counter": "counter",
}


def check(model):
    """The tuple of the bounds of moves of the processes, if the tree is let."""
    _, base, streams, items, processes = model
    check_number(base, 2, 6)
    check_many("streams", streams, 4)
    check_many("items", items, 8)
    check_many("processes", processes, 6)
    kinds = kinds_of(streams, items, processes)
    for item in items:
        check_item(item)
    rooms = {item[1]: item[3] for item in items if item[0] == "store"}
    checker = Checker(base, kinds, rooms)
    for process in processes:
        checker.check_process(process)
    return tuple(bound_of(process) for process in processes)


def check_number(value, least, greatest):
    """A number has to be in its bounds."""
    if not least <= value <= greatest:
        raise BadNumber(value)


def check_many(name, parts, most):
    """There have to be no more parts than can be."""
    if len(parts) > most:
        raise TooLarge(name)


def kinds_of(streams, items, processes):
    """For each name what it is the name of; none may stand twice."""
    rows = [("stream", name) for name in streams]
    rows.extend([(item[0], item[1]) for item in items])
    rows.extend([("process", process[1]) for process in processes])
    kinds = {}
    for kind, name in rows:
        if name in kinds:
            raise Twice(name)
        kinds[name] = kind
    return kinds


def check_item(item):
    """The numbers of an item."""
    word = item[0]
    if word == "resource":
        check_many(item[1], item[2], MOST_SPANS)
        for units, ticks in item[2]:
            check_number(units, 0, 4)
            check_number(ticks, 1, 9)
    elif word == "belt":
        check_number(item[2], 1, 9)
        if item[3] is not None:
            check_number(item[3], 1, 9)
    else:
        check_level(item[2], item[3])


def check_level(start, top):
    """A start below 0 is told ahead of the top, one above the top behind it."""
    if start < 0:
        raise BadNumber(start)
    check_number(top, 1, 9)
    check_number(start, 0, top)


def bound_of(process):
    """The greatest number of moves that a process makes in one tick."""
    _, _, _, once, cycle = process
    return 1 + moves_of(once) + 2 * moves_of(cycle)


class Checker:
    """Goes through the processes of a model, and counts the statements of all of them."""

    def __init__(self, base, kinds, rooms):
        self.base = base
        self.kinds = kinds
        self.rooms = rooms
        self.many = 0

    def check_process(self, process):
        """The start of a process, its bodies, and whether its cycle pauses."""
        _, name, start, once, cycle = process
        check_number(start, 0, 9)
        self.check_body(once, 0)
        self.check_body(cycle, 0)
        if cycle and not pauses(cycle):
            raise Endless(name)

    def check_body(self, body, around):
        """The statements of a body that stands inside of so many statements."""
        for statement in body:
            self.count_statement(around)
            self.check_statement(statement)
            for inner in bodies_of(statement):
                self.check_body(inner, around + 1)

    def count_statement(self, around):
        """There can be so many statements in a model, and so many around a statement."""
        self.many += 1
        if self.many > MOST_STATEMENTS:
            raise TooLarge("statements")
        if around > MOST_AROUND:
            raise TooLarge("depth")

    def check_statement(self, statement):
        """The own faults of a statement, without its bodies."""
        word = statement[0]
        if word in ("put", "take"):
            self.check_parts(statement[1])
        elif word == "if":
            self.check_name(statement[2], GAUGED[statement[1]])
            check_number(statement[3], 0, 9)
        elif word in NEEDED:
            self.check_name(statement[1], NEEDED[word])
        if word in ("hold", "loop"):
            check_number(statement[1], 1, 9)
        elif word in ("add", "drop"):
            check_number(statement[2], 1, 9)
        elif word == "draw":
            self.check_arms(statement[2])
        elif word == "use":
            check_number(statement[2], 0, 9)
            if statement[3] is not None:
                check_number(statement[3], 1, 9)

    def check_name(self, name, kind):
        """A name has to be that of a thing of this kind."""
        if name not in self.kinds:
            raise Unknown(name)
        if self.kinds[name] != kind:
            raise BadUse(name)

    def check_parts(self, parts):
        """The parts of a `put` or a `take`."""
        check_many("parts", parts, MOST_PARTS)
        met = {}
        for name, n in parts:
            self.check_name(name, "store")
            if name in met:
                raise Twice(name)
            met[name] = True
            check_number(n, 1, self.rooms[name])

    def check_arms(self, arms):
        """The arms of a `draw`: each digit of the base has to stand in one of them."""
        met = {}
        for digits, _ in arms:
            for digit in digits:
                check_number(digit, 0, self.base - 1)
                if digit in met:
                    raise BadNumber(digit)
                met[digit] = True
        for digit in range(self.base):
            if digit not in met:
                raise BadNumber(digit)
