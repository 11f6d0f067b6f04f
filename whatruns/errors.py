"""The errors that this package raises."""


class MeterError(ValueError):
    """What all errors of this package have in common."""


class BadHouse(MeterError):
    """A house, or the named part of one, is not as documented."""

    def __init__(self, part):
        super().__init__(f"not as a house must be: {part}")
        self.part = part


class BadState(MeterError):
    """What was given is not a state of the house."""


class BadRun(MeterError):
    """What was given is not a run of the house."""

    def __init__(self, index):
        super().__init__(f"not as a run must be, at index {index}")
        self.index = index


class BadReadings(MeterError):
    """What was given is not a list of one to eight readings."""

    def __init__(self, index):
        super().__init__(f"not as readings must be, at index {index}")
        self.index = index


class TooLarge(MeterError):
    """There are more pairs of states to look at than the limit allows."""


class BadLamps(MeterError):
    """What was given is not an ascending tuple of devices of the house."""


class BadPrices(MeterError):
    """What was given does not have a price for each device of the house."""


class BadSeen(MeterError):
    """What was given cannot be seen at the next tick."""

    def __init__(self, index):
        super().__init__(f"this cannot be seen then, at index {index}")
        self.index = index


class NothingDone(MeterError):
    """There is no tick that can be undone."""


class BadText(MeterError):
    """A text is not written as documented."""

    def __init__(self, row):
        super().__init__(f"not written as it must be, at line {row}")
        self.row = row
