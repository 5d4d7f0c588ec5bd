"""What several tests need: models from texts, and events as short lines."""

from meantrace.checks import check
from meantrace.plainruns import PlainRun
from meantrace.reading import read_model

EXAMPLE = (
    "model", 2, ("s",), (),
    (("process", "p", 0, (),
      (("draw", "s", (((0,), (("mark", "a"),)), ((1,), ()))), ("hold", 1))),),
)
EXAMPLE_TEXT = (
    "model 2 streams s { process p at 0 { } cycle "
    "{ draw s { at 0 { mark a ; } at 1 { } } hold 1 ; } }"
)


def let(text):
    """The model of a text, which is let."""
    model = read_model(text)
    check(model)
    return model


def line(event):
    """An event without its tick; an empty name and a 0 are left out."""
    _, process, word, name, n = event
    parts = [process, word]
    if name:
        parts.append(name)
    if n:
        parts.append(str(n))
    return " ".join(parts)


def lines(events):
    """Events as one string."""
    return ", ".join(line(event) for event in events)


def play(text, ticks, *tapes):
    """The events of the first ticks, a string for each tick."""
    run = PlainRun.of(text, tapes)
    return [lines(run.tick()) for _ in range(ticks)]


def one(body, items="", cycle="hold 9 ;"):
    """A text with one process p with this body for once."""
    return f"model 2 streams {{ {items} process p at 0 {{ {body} }} cycle {{ {cycle} }} }}"


def tree(statements, items=(), streams=(), cycle=(("hold", 9),), base=2):
    """A tree with one process p with these statements for once."""
    processes = (("process", "p", 0, tuple(statements), tuple(cycle)),)
    return ("model", base, tuple(streams), tuple(items), processes)
