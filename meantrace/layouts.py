"""What stays the same in all runs of a model."""


class Layout:
    """The parts of a model, ready to be looked up by name or by number."""

    def __init__(self, model):
        _, base, streams, items, processes = model
        resources = items_of(items, "resource")
        stores = items_of(items, "store")
        belts = items_of(items, "belt")
        counters = items_of(items, "counter")
        self.base = base
        self.processes = processes
        self.process_numbers = numbers_of([process[1] for process in processes])
        self.stream_numbers = numbers_of(streams)
        self.resource_numbers = numbers_of([item[1] for item in resources])
        self.store_numbers = numbers_of([item[1] for item in stores])
        self.belt_numbers = numbers_of([item[1] for item in belts])
        self.counter_numbers = numbers_of([item[1] for item in counters])
        self.units = [units_by_phase(item[2]) for item in resources]
        self.rooms = [item[3] for item in stores]
        self.lengths = [item[2] for item in belts]
        self.belt_rooms = [item[3] for item in belts]
        self.tops = [item[3] for item in counters]


def items_of(items, kind):
    """The items of a kind, in order."""
    return [item for item in items if item[0] == kind]


def numbers_of(names):
    """The number of each name."""
    return {name: number for number, name in enumerate(names)}


def units_by_phase(spans):
    """The units that a resource has in each phase of its plan."""
    return [units for units, ticks in spans for _ in range(ticks)]
