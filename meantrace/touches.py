"""What a change of a model touches in a run."""

from meantrace.bodies import bare, bodies_of, names_in
from meantrace.layouts import Layout
from meantrace.states import start_state
from meantrace.ticking import Ticker
from meantrace.worlds import plain_world


def is_changed(elder, model):
    """Whether a model is a changed model of the elder one."""
    return common_parts(elder) == common_parts(model)


def common_parts(model):
    """What a model has in common with all its changed models."""
    _, base, streams, items, processes = model
    kinds = tuple((item[0], item[1]) for item in items)
    return (base, streams, kinds, tuple(process[1] for process in processes))


def first_touch(elder, model, tapes, ticks):
    """The first touch among the first ticks of the elder run, or None."""
    changed = changed_paths(elder, model)
    first = 0 if ticks > 0 and differs_at_start(elder, model) else None
    layout = Layout(elder)
    state = start_state(elder)
    reads = tuple(0 for _ in tapes)
    # All ticks are run, since a digit that is missing behind a touch counts, too.
    for tick in range(ticks):
        ticker = Ticker(plain_world(layout, state), tapes, tick, reads)
        touched = makes_touch(ticker, changed)
        if touched and first is None:
            first = tick
        ticker.world.pass_time(1)
        state, reads = ticker.world.frozen(), tuple(ticker.done)
    return first


def differs_at_start(elder, model):
    """Whether a plan, the start of an item or process, or which of once and cycle is empty, differs."""
    for item, other in zip(elder[3], model[3]):
        if item[0] != "belt" and item[2] != other[2]:
            return True
    return [outline(process) for process in elder[4]] != [outline(process) for process in model[4]]


def outline(statement):
    """A statement without its bodies, and which of them are empty."""
    return (bare(statement), tuple(0 if body else 1 for body in bodies_of(statement)))


def changed_paths(elder, model):
    """For each process of the elder model the paths of the statements that are changed."""
    fresh = {item[1]: item for item in model[3]}
    differing = [item[1] for item in elder[3] if item != fresh[item[1]]]
    rows = []
    for process, other in zip(elder[4], model[4]):
        known = statements_at((), (other,))
        found = {}
        for path, (told, names) in statements_at((), (process,)).items():
            is_same = path in known and known[path][0] == told
            if not is_same or any([name in differing for name in names]):
                found[path] = True
        rows.append(found)
    return rows


def statements_at(path, body):
    """For each path into a body what is told of the statement there, and the names in it."""
    rows = {}
    for k, statement in enumerate(body):
        is_last = 1 if k + 1 == len(body) else 0
        here = (*path, (k, -1))
        rows[here] = ((outline(statement), is_last), names_in(statement))
        for number, inner in enumerate(bodies_of(statement)):
            for place, told in statements_at((*path, (k, number)), inner).items():
                rows[place] = told
    return rows


def makes_touch(ticker, changed):
    """Make all moves of a tick; tell whether some process comes to a changed statement in it."""
    walkers = ticker.world.walkers
    touched = any([path_of(walker) in changed[walker.number] for walker in walkers])
    mover = ticker.step_on()
    while mover is not None:
        if path_of(walkers[mover]) in changed[mover]:
            touched = True
        mover = ticker.step_on()
    return touched


def path_of(walker):
    """The path at which a process is."""
    return tuple((k, number) for k, number, _ in walker.entries)
