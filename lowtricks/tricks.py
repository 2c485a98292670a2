"""Steps as an object that never changes."""

from lowtricks.alike import same_function
from lowtricks.errors import InvalidFormat, InvalidIndex, InvalidTimes, NotTricks, TooLong
from lowtricks.steps import MASKS, applied, check_steps, exchanged, is_step, is_whole, merged, plain
from lowtricks.texts import read_steps, show_steps

MOST_STEPS = 20


class Tricks:
    """At most 20 steps."""

    def __init__(self, *steps):
        check_steps(steps)
        if len(steps) > MOST_STEPS:
            raise TooLong(MOST_STEPS)
        self._steps = steps

    @classmethod
    def read(cls, text):
        """Return the object with the steps of a text."""
        steps = read_steps(text)
        return cls(*steps)

    @property
    def steps(self):
        """The tuple of steps."""
        return self._steps

    @property
    def masks(self):
        """The string of the masks."""
        return "".join([step for step in self._steps if step in MASKS])

    @property
    def shift(self):
        """The sum of the integers."""
        return sum([step for step in self._steps if step not in MASKS])

    def __call__(self, number):
        """Return the result for a number."""
        return applied(self._steps, number)

    def __add__(self, other):
        """Return an object with the steps of the other one behind these."""
        if not isinstance(other, Tricks):
            raise NotTricks("only tricks can stand behind tricks")
        steps = self._steps + other._steps
        return Tricks(*steps)

    def __mul__(self, other):
        """Return an object with these steps so many times."""
        if not is_whole(other) or other < 0:
            raise InvalidTimes("times are an integer from 0 on")
        if len(self._steps) * other > MOST_STEPS:
            raise TooLong(MOST_STEPS)
        # No steps may be taken more often than Python can repeat a tuple.
        steps = self._steps * min(other, MOST_STEPS)
        return Tricks(*steps)

    def __invert__(self):
        """Return an object with the exchanged steps."""
        steps = exchanged(self._steps)
        return Tricks(*steps)

    def __eq__(self, other):
        """Return whether the other value is an object that does the same."""
        return isinstance(other, Tricks) and same_function(self._steps, other._steps)

    def __len__(self):
        """Return the number of steps."""
        return len(self._steps)

    def __getitem__(self, at):
        """Return the step with an index."""
        if not is_whole(at) or not 0 <= at < len(self._steps):
            raise InvalidIndex("there is no step with this index")
        return self._steps[at]

    def __contains__(self, x):
        """Return whether any value is one of the steps."""
        # True is equal to 1, but it is no step.
        return is_step(x) and x in self._steps

    def __iter__(self):
        raise TypeError("tricks are not iterated over")

    def shown(self, kind):
        """Return the text of the steps, of the merged or of the plain ones."""
        if kind == "":
            return show_steps(self._steps)
        if kind == "merged":
            return show_steps(merged(self._steps))
        if kind == "plain":
            return show_steps(plain(self._steps))
        raise InvalidFormat("a kind of text is empty, merged or plain")
