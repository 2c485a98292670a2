"""The errors that the package raises."""


class LowError(ValueError):
    """The base class of all errors of the package."""


class InvalidSteps(LowError):
    """A value is not steps, or not a step."""


class InvalidNumber(LowError):
    """A value is not an integer, or not in its range."""


class InvalidWord(LowError):
    """A value is not a word of bits."""


class InvalidWidth(LowError):
    """A value is not a width."""


class InvalidIndex(LowError):
    """A value is not an index of what it should count."""


class InvalidPlace(LowError):
    """A value is not a place of a bit."""


class InvalidLength(LowError):
    """A value is not a length."""


class InvalidTimes(LowError):
    """A value is not a number of times."""


class InvalidBit(LowError):
    """A value is not a bit."""


class InvalidFormat(LowError):
    """A value is not a kind of text."""


class InvalidText(LowError):
    """A value is not a text of steps."""


class InvalidCommand(LowError):
    """A value is not a command."""


class NotFixed(LowError):
    """A number is not fixed."""


class NotTricks(LowError):
    """A value is not a list of tricks as an object."""


class NothingToUndo(LowError):
    """There is no change that could be reverted."""


class NoSteps(LowError):
    """There are no steps yet."""


class TooLong(LowError):
    """There would be more steps than the limit."""

    def __init__(self, limit):
        super().__init__(f"more than {limit} steps")
        self.limit = limit


class TooMany(LowError):
    """There would be more bits than the limit."""

    def __init__(self, limit):
        super().__init__(f"more than {limit} bits")
        self.limit = limit
