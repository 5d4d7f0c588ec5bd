"""A second way to the same trace: flat code, run as point [20] of the document tells.

It is written for the tests alone, without the modules of the package that run models, and works
everything out anew at each question.
"""

FREE_MOVES = ("jump", "give", "again", "unguard", "done")


class MissingDigit(Exception):
    """A tape is at its end."""


class FlatProcess:
    def __init__(self, name, start):
        self.name = name
        self.mode = "held"
        self.left = start
        self.address = 0
        self.stack = []


class FlatReference:
    def __init__(self, model, codes, tapes):
        _, _, streams, items, processes = model
        self.items = {item[1]: item for item in items}
        self.order = items
        self.streams = streams
        self.codes = codes
        self.tapes = dict(zip(streams, tapes))
        self.reads = dict.fromkeys(streams, 0)
        self.processes = [FlatProcess(process[1], process[2]) for process in processes]
        self.queue = {name: [] for name in self.items}
        self.level = {item[1]: item[2] for item in items if item[0] in ("store", "counter")}
        self.belt = {item[1]: [] for item in items if item[0] == "belt"}
        self.time = 0
        self.over = False

    def units(self, name):
        plan = [units for units, ticks in self.items[name][2] for _ in range(ticks)]
        return plan[self.time % len(plan)]

    def busy(self, name):
        return sum(process.stack.count(("unit", name)) for process in self.processes)

    def free(self, name):
        return self.units(name) - self.busy(name)

    def instruction(self, index):
        return self.codes[index][self.processes[index].address]

    def can_move(self, index):
        process = self.processes[index]
        if self.over or process.mode == "done":
            return False
        if process.mode == "broken":
            return True
        if process.mode == "held":
            return process.left == 0
        now = self.instruction(index)
        if process.mode == "asking":
            first = self.queue[now[1]][0][1] == index
            return process.left == 0 or (first and self.free(now[1]) > 0)
        if now[0] == "put":
            return all(self.level[name] + n <= self.items[name][3] for name, n in now[1])
        if now[0] == "take":
            return all(self.level[name] - n >= 0 for name, n in now[1])
        if now[0] == "load":
            room = self.items[now[1]][3]
            return room is None or len(self.belt[now[1]]) < room
        if now[0] == "unload":
            return self.belt[now[1]][:1] == [0]
        return True

    def tick(self):
        """The events of a tick, without the number of the tick."""
        events = []
        while True:
            ready = [index for index in range(len(self.processes)) if self.can_move(index)]
            if not ready:
                break
            name = self.processes[ready[0]].name
            events.extend((name, *event) for event in self.move(ready[0]))
        if not self.over:
            self.time += 1
            for process in self.processes:
                if process.mode in ("held", "asking") and process.left > 0:
                    process.left -= 1
            for name, things in self.belt.items():
                self.belt[name] = [left - 1 if left > 0 else 0 for left in things]
        return events

    def come_to(self, index, address):
        """Come to an address, and do at once what is done at once."""
        process = self.processes[index]
        process.mode, process.left, process.address = "ready", 0, address
        events = []
        while self.instruction(index)[0] in FREE_MOVES:
            word, *rest = self.instruction(index)
            if word == "jump":
                process.address = rest[0]
                continue
            if word == "done":
                process.mode, process.address, process.stack = "done", -1, []
                return events
            top = process.stack.pop()
            if word == "give":
                assert top == ("unit", rest[0])
                events.append(("give", rest[0], 0))
                process.address += 1
            elif word == "unguard":
                assert top[0] == "guard"
                process.address += 1
            elif top[1] > 0:
                process.stack.append(("turns", top[1] - 1))
                process.address = rest[0]
            else:
                process.address += 1
        return events

    def unwind(self, process, to_guard):
        """Take entries off the stack; return the events and the address of the guard."""
        events = []
        while process.stack:
            word, worth = process.stack.pop()
            if word == "unit":
                events.append(("give", worth, 0))
            if word == "guard" and to_guard:
                return events, worth
        return events, None

    def move(self, index):
        process = self.processes[index]
        now = self.instruction(index)
        if process.mode == "held":
            return [("wake", "", 0)] + self.come_to(index, process.address + 1)
        if process.mode == "broken":
            events, address = self.unwind(process, True)
            return [("broken", "", 0)] + events + self.come_to(index, address)
        if process.mode == "asking":
            return self.answer(index, now)
        if now[0] == "hold":
            process.mode, process.left = "held", now[1]
            return [("hold", "", now[1])]
        if now[0] == "use":
            process.mode = "asking"
            process.left = -1 if now[3] is None else now[3]
            self.queue[now[1]].append((now[2], index))
            self.queue[now[1]].sort(key=lambda pair: pair[0])
            return [("ask", now[1], now[2])]
        if now[0] == "stop":
            events, _ = self.unwind(process, False)
            process.mode, process.left, process.address = "done", 0, -1
            return [("stop", "", 0)] + events
        if now[0] == "end":
            self.over = True
            return [("end", "", 0)]
        if now[0] == "interrupt":
            return self.interrupt(index, now[1])
        events, address = self.act(process, now)
        return events + self.come_to(index, address)

    def answer(self, index, now):
        process = self.processes[index]
        got = self.queue[now[1]][0][1] == index and self.free(now[1]) > 0
        self.queue[now[1]] = [pair for pair in self.queue[now[1]] if pair[1] != index]
        if got:
            process.stack.append(("unit", now[1]))
            return [("get", now[1], 0)] + self.come_to(index, process.address + 1)
        return [("leave", now[1], 0)] + self.come_to(index, now[4])

    def interrupt(self, index, name):
        process = self.processes[index]
        target = [other for other in self.processes if other.name == name][0]
        guarded = any(entry[0] == "guard" for entry in target.stack)
        if not guarded or target.mode in ("broken", "done"):
            return [("interrupt", name, 0)] + self.come_to(index, process.address + 1)
        number = self.processes.index(target)
        for resource, rows in self.queue.items():
            self.queue[resource] = [pair for pair in rows if pair[1] != number]
        target.mode, target.left = "broken", 0
        if target is process:
            return [("interrupt", name, 1)]
        return [("interrupt", name, 1)] + self.come_to(index, process.address + 1)

    def act(self, process, now):
        """The events of an instruction, and the address to which it leads."""
        word, ahead = now[0], process.address + 1
        if word == "mark":
            return [("mark", now[1], 0)], ahead
        if word == "add":
            self.level[now[1]] = min(self.items[now[1]][3], self.level[now[1]] + now[2])
            return [("add", now[1], self.level[now[1]])], ahead
        if word == "drop":
            self.level[now[1]] = max(0, self.level[now[1]] - now[2])
            return [("drop", now[1], self.level[now[1]])], ahead
        if word in ("put", "take"):
            for name, n in now[1]:
                self.level[name] += n if word == "put" else -n
            return [(word, name, n) for name, n in now[1]], ahead
        if word == "load":
            self.belt[now[1]].append(self.items[now[1]][2])
            return [("load", now[1], 0)], ahead
        if word == "unload":
            self.belt[now[1]].pop(0)
            return [("unload", now[1], 0)], ahead
        if word == "draw":
            at = self.reads[now[1]]
            if at >= len(self.tapes[now[1]]):
                raise MissingDigit(now[1])
            self.reads[now[1]] = at + 1
            digit = self.tapes[now[1]][at]
            return [("draw", now[1], digit)], now[2][digit]
        if word == "if":
            bit = int(self.gauge(now[1], now[2]) >= now[3])
            return [("test", now[2], bit)], ahead if bit else now[4]
        if word == "loop":
            process.stack.append(("turns", now[1] - 1))
            return [("loop", "", now[1])], ahead
        assert word == "guard"
        process.stack.append(("guard", now[1]))
        return [("guard", "", 0)], ahead

    def gauge(self, gauge, name):
        if gauge == "free":
            return self.free(name)
        if gauge == "queue":
            return len(self.queue[name])
        if gauge == "belt":
            return len(self.belt[name])
        return self.level[name]

    def frame(self):
        rows = []
        for item in self.order:
            if item[0] == "resource":
                rows.extend([self.busy(item[1]), len(self.queue[item[1]])])
        for kind in ("store", "belt", "counter"):
            rows.extend(self.gauge(kind, item[1]) for item in self.order if item[0] == kind)
        return tuple(rows)
