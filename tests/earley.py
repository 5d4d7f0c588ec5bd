"""The grammar of model texts as plain rules, and the first bad token by them.

It is written for the tests alone: it follows all rules at once, as an Earley parser does, and so
knows nothing of how the package reads.
"""

from meantrace.names import is_name

RULES = {
    "MODEL": ["model NUMBER streams NAMES { ITEMS PROCESSES }"],
    "NAMES": ["", "NAME NAMES"],
    "NUMBERS": ["", "NUMBER NUMBERS"],
    "ITEMS": ["", "ITEM ITEMS"],
    "PROCESSES": ["", "PROCESS PROCESSES"],
    "ITEM": [
        "resource NAME plan SPAN SPANS ;", "store NAME NUMBER of NUMBER ;",
        "belt NAME length NUMBER ;", "belt NAME length NUMBER room NUMBER ;",
        "counter NAME NUMBER of NUMBER ;",
    ],
    "SPAN": ["NUMBER for NUMBER"],
    "SPANS": ["", ", SPAN SPANS"],
    "PROCESS": ["process NAME at NUMBER BODY cycle BODY"],
    "BODY": ["{ STATEMENTS }"],
    "STATEMENTS": ["", "STATEMENT STATEMENTS"],
    "PART": ["NAME NUMBER"],
    "PARTS": ["", ", PART PARTS"],
    "ARM": ["at NUMBER NUMBERS BODY"],
    "ARMS": ["", "ARM ARMS"],
    "GAUGE": ["free", "queue", "store", "belt", "counter"],
    "STATEMENT": [
        "hold NUMBER ;", "mark NAME ;", "add NAME NUMBER ;", "drop NAME NUMBER ;",
        "put PART PARTS ;", "take PART PARTS ;", "load NAME ;", "unload NAME ;",
        "interrupt NAME ;", "stop ;", "end ;", "draw NAME { ARM ARMS }",
        "use NAME rank NUMBER BODY", "use NAME rank NUMBER patience NUMBER BODY else BODY",
        "if GAUGE NAME NUMBER BODY", "if GAUGE NAME NUMBER BODY else BODY",
        "loop NUMBER BODY", "guard BODY handle BODY",
    ],
}
GRAMMAR = {left: [tuple(right.split()) for right in rows] for left, rows in RULES.items()}


def fits(symbol, token):
    if symbol == "NUMBER":
        return len(token) == 1 and token in "0123456789"
    if symbol == "NAME":
        return is_name(token)
    return symbol == token


def closed(charts, rows):
    """A set of items with all that follow from them; an item is (left, right, dot, origin)."""
    here = len(charts)
    chart = {}
    work = list(rows)
    empty = set()
    while work:
        item = work.pop()
        if item in chart:
            continue
        chart[item] = True
        left, right, dot, origin = item
        if dot == len(right):
            if origin == here:
                empty.add(left)
            source = list(chart) if origin == here else charts[origin]
            for other in source:
                if other[2] < len(other[1]) and other[1][other[2]] == left:
                    work.append((other[0], other[1], other[2] + 1, other[3]))
        elif right[dot] in GRAMMAR:
            for row in GRAMMAR[right[dot]]:
                work.append((right[dot], row, 0, here))
            if right[dot] in empty:
                work.append((left, right, dot + 1, origin))
    return list(chart)


def first_bad(tokens):
    """The number that `BadText` tells, or None for a text of the grammar."""
    charts = []
    charts.append(closed(charts, [("MODEL", GRAMMAR["MODEL"][0], 0, 0)]))
    for at, token in enumerate(tokens):
        rows = [(left, right, dot + 1, origin) for left, right, dot, origin in charts[-1]
                if dot < len(right) and fits(right[dot], token)]
        if not rows:
            return at
        charts.append(closed(charts, rows))
    whole = ("MODEL", GRAMMAR["MODEL"][0], len(GRAMMAR["MODEL"][0]), 0)
    return None if whole in charts[-1] else len(tokens)
