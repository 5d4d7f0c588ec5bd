"""Watches: claims about what a walk shows."""

MOST_PLACES = 12


def is_watch(watch):
    """Whether a tuple is a watch."""
    word, rows, bad = watch
    many = len(rows)
    if word != "watch" or not 1 <= many <= MOST_PLACES:
        return False
    if not all([is_watching(row, many) for row in rows]):
        return False
    if not all([0 <= place < many for place in bad]):
        return False
    return all([bad[at] < bad[at + 1] for at in range(len(bad) - 1)])


def is_watching(row, many):
    """Whether pairs are those of a state in a watch of so many states."""
    if not row or row[-1][0] is not None or not all([0 <= to < many for _, to in row]):
        return False
    marks = [mark for mark, _ in row[:-1]]
    return None not in marks and len({mark for mark in marks}) == len(marks)


def place_behind(watch, place, shown):
    """The state of a watch behind a tick."""
    row = watch[1][place]
    for mark, to in row[:-1]:
        if mark in shown:
            return to
    return row[-1][1]


def never(mark):
    """The mark is never shown."""
    return ("watch", (((mark, 1), (None, 0)), ((None, 1),)), (1,))


def within(cause, effect, n):
    """Behind each tick that shows the cause the effect is shown in one of the next n ticks."""
    rows = [((cause, 1), (None, 0))]
    for k in range(1, n + 1):
        rows.append(((effect, 0), (None, k + 1)))
    rows.append(((None, n + 1),))
    return ("watch", tuple(rows), (n + 1,))


def order(first, second):
    """The second mark is not shown ahead of the first one."""
    return ("watch", (((first, 1), (second, 2), (None, 0)), ((None, 1),), ((None, 2),)), (2,))


class Watcher:
    """A watch that goes along with a walk."""

    def __init__(self, watch):
        self.watch = watch
        self.here = 0
        self.has_broken = 0 in watch[2]

    def __call__(self, shown):
        """Go on by a tick; return the state of the watch."""
        self.here = place_behind(self.watch, self.here, shown)
        if self.here in self.watch[2]:
            self.has_broken = True
        return self.here

    @property
    def place(self):
        """The state of the watch."""
        return self.here

    @property
    def broken(self):
        """Whether it has come to a bad state."""
        return self.has_broken
