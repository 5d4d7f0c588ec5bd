"""The errors that the document names."""


class MeanError(ValueError):
    """What all errors of the package stand under."""


class BadText(MeanError):
    """A text goes wrong at the token or character with this number."""

    def __init__(self, at):
        super().__init__(f"the text goes wrong at number {at}")
        self.at = at


class Twice(MeanError):
    """A name stands twice where it may stand once."""

    def __init__(self, name):
        super().__init__(f"{name} stands twice")
        self.name = name


class Unknown(MeanError):
    """A name that is no stream, item or process."""

    def __init__(self, name):
        super().__init__(f"{name} is unknown")
        self.name = name


class BadUse(MeanError):
    """A name of another kind than is needed."""

    def __init__(self, name):
        super().__init__(f"{name} cannot be used like this")
        self.name = name


class BadNumber(MeanError):
    """A number that is out of its bounds."""

    def __init__(self, value):
        super().__init__(f"{value} is out of its bounds")
        self.value = value


class TooLarge(MeanError):
    """Something has more parts than it may have."""

    def __init__(self, name):
        super().__init__(f"{name}: too large")
        self.name = name


class TooMany(MeanError):
    """More of something were met than are followed."""

    def __init__(self, name):
        super().__init__(f"{name}: too many")
        self.name = name


class Endless(MeanError):
    """A process whose cycle does not pause."""

    def __init__(self, name):
        super().__init__(f"the cycle of {name} does not pause")
        self.name = name


class Dry(MeanError):
    """The tape of a stream is at its end when a digit is to be read."""

    def __init__(self, name):
        super().__init__(f"the tape of {name} is at its end")
        self.name = name


class Split(MeanError):
    """A name that houses cannot share in this way."""

    def __init__(self, name):
        super().__init__(f"{name} is split")
        self.name = name


class Parted(MeanError):
    """A web has several closed classes; first and second are states of two."""

    def __init__(self, first, second):
        super().__init__(f"the states {first} and {second} are parted")
        self.first = first
        self.second = second
