"""The items of a model while a tick is under way."""


class Floor:
    """Resources, stores, belts and counters as they are now. They change with every move."""

    def __init__(self, layout, state):
        _, phases, _, queues, levels, belts, counts = state
        self.layout = layout
        self.phases = list(phases)
        self.queues = [list(queue) for queue in queues]
        self.levels = list(levels)
        self.belts = [list(belt) for belt in belts]
        self.counts = list(counts)
        self.busy = [0 for _ in phases]

    def free_units(self, number):
        """The free units of the resource with this number."""
        return self.layout.units[number][self.phases[number]] - self.busy[number]

    def take_unit(self, name):
        """A process gets a unit."""
        self.busy[self.layout.resource_numbers[name]] += 1

    def give_unit(self, name):
        """A process gives a unit back."""
        self.busy[self.layout.resource_numbers[name]] -= 1

    def join_queue(self, name, rank, process):
        """A process stands in the queue, behind all whose rank is at most its own."""
        queue = self.queues[self.layout.resource_numbers[name]]
        at = 0
        while at < len(queue) and queue[at][0] <= rank:
            at += 1
        queue.insert(at, (rank, process))

    def leave_queue(self, name, process):
        """A process leaves the queue."""
        number = self.layout.resource_numbers[name]
        self.queues[number] = [pair for pair in self.queues[number] if pair[1] != process]

    def is_first(self, name, process):
        """Whether a process in the queue is the first one."""
        return self.queues[self.layout.resource_numbers[name]][0][1] == process

    def is_served(self, name, process):
        """Whether a process in the queue is the first one, and a unit is free."""
        number = self.layout.resource_numbers[name]
        return self.is_first(name, process) and self.free_units(number) >= 1

    def is_blocked(self, statement):
        """Whether a statement has to wait for room or for things."""
        word = statement[0]
        if word == "put":
            return not all([self.room_left(name) >= n for name, n in statement[1]])
        if word == "take":
            return not all([self.level_of(name) >= n for name, n in statement[1]])
        if word == "load":
            return self.is_full(statement[1])
        if word == "unload":
            return not self.has_arrived(statement[1])
        return False

    def level_of(self, name):
        """How many things a store contains."""
        return self.levels[self.layout.store_numbers[name]]

    def room_left(self, name):
        """How many things more a store has room for."""
        number = self.layout.store_numbers[name]
        return self.layout.rooms[number] - self.levels[number]

    def is_full(self, name):
        """Whether a belt has as many things as room."""
        number = self.layout.belt_numbers[name]
        room = self.layout.belt_rooms[number]
        return room is not None and len(self.belts[number]) >= room

    def has_arrived(self, name):
        """Whether the first thing of a belt can be unloaded."""
        belt = self.belts[self.layout.belt_numbers[name]]
        return len(belt) > 0 and belt[0] == 0

    def change_level(self, name, n):
        """So many things come to a store, or leave it if n is below 0."""
        self.levels[self.layout.store_numbers[name]] += n

    def load(self, name):
        """A thing comes on a belt."""
        number = self.layout.belt_numbers[name]
        self.belts[number].append(self.layout.lengths[number])

    def unload(self, name):
        """The first thing leaves a belt."""
        number = self.layout.belt_numbers[name]
        self.belts[number] = self.belts[number][1:]

    def receive(self, name, many):
        """So many things come behind the others of a belt, with 0 left."""
        self.belts[self.layout.belt_numbers[name]].extend([0 for _ in range(many)])

    def empty_belt(self, name):
        """All things leave a belt."""
        self.belts[self.layout.belt_numbers[name]] = []

    def change_count(self, name, n):
        """A counter changes by n, as far as it can; return its new value."""
        number = self.layout.counter_numbers[name]
        worth = max(0, min(self.layout.tops[number], self.counts[number] + n))
        self.counts[number] = worth
        return worth

    def gauge_value(self, gauge, name):
        """The value of a gauge of an `if`."""
        if gauge == "free":
            return self.free_units(self.layout.resource_numbers[name])
        if gauge == "queue":
            return len(self.queues[self.layout.resource_numbers[name]])
        if gauge == "store":
            return self.level_of(name)
        if gauge == "belt":
            return len(self.belts[self.layout.belt_numbers[name]])
        return self.counts[self.layout.counter_numbers[name]]

    def wait_for_unit(self, name):
        """How many ticks go by before a unit is free, if no process moves; None if none will be."""
        number = self.layout.resource_numbers[name]
        units = self.layout.units[number]
        for ticks in range(len(units)):
            if units[(self.phases[number] + ticks) % len(units)] > self.busy[number]:
                return ticks
        return None

    def wait_at(self, statement):
        """How many ticks a statement has to wait, if no process moves; None if it waits for one."""
        if not self.is_blocked(statement):
            return 0
        if statement[0] != "unload":
            return None
        belt = self.belts[self.layout.belt_numbers[statement[1]]]
        return belt[0] if belt else None

    def pass_time(self, ticks):
        """So many ticks go by for plans and belts."""
        units = self.layout.units
        for number in range(len(units)):
            self.phases[number] = (self.phases[number] + ticks) % len(units[number])
        self.belts = [[max(0, left - ticks) for left in belt] for belt in self.belts]

    def frame(self):
        """The values of all gauges."""
        worths = []
        for number, queue in enumerate(self.queues):
            worths.append(self.busy[number])
            worths.append(len(queue))
        worths.extend(self.levels)
        worths.extend([len(belt) for belt in self.belts])
        worths.extend(self.counts)
        return tuple(worths)
