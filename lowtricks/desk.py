"""A desk, which runs commands on steps, other steps and a reader."""

from lowtricks.alike import parting_number, same_function
from lowtricks.errors import InvalidCommand, NoSteps
from lowtricks.fixed import count_fixed
from lowtricks.origins import count_origins
from lowtricks.readers import Reader
from lowtricks.reading import MOST_BITS, ends_of
from lowtricks.search import shortest
from lowtricks.steps import applied
from lowtricks.texts import NOTHING_SHOWN, found_steps, from_decimal, in_decimal, is_decimal, show_steps
from lowtricks.tricks import MOST_STEPS

MOST_DIGITS = 61

# What stands behind the name of each command.
FORMS = {
    "steps": ("TEXT",),
    "other": ("TEXT",),
    "run": ("N",),
    "ends": ("N",),
    "read": ("WORD",),
    "undo": (),
    "rest": (),
    "same": (),
    "part": (),
    "origins": ("N", "W"),
    "fixed": ("W",),
    "short": (),
}

DONE = "ok"


def _few_steps(part):
    """Return at most 20 steps with a text, or None."""
    steps = found_steps(part)
    if steps is None or len(steps) > MOST_STEPS:
        return None
    return steps


def _number(part):
    """Return the integer N with a word, or None."""
    negative = part.startswith("-")
    digits = part[1:] if negative else part
    if part == "-0" or len(digits) > MOST_DIGITS or not is_decimal(digits):
        return None
    number = from_decimal(digits)
    return -number if negative else number


def _width(part):
    """Return the width W with a word, or None."""
    number = _number(part)
    if number is None or not 0 <= number <= MOST_BITS:
        return None
    return number


def _bits(part):
    """Return the list of the bits of a word of at least one bit, or None."""
    if not 1 <= len(part) <= MOST_BITS or part.strip("01") != "":
        return None
    return [int(sign) for sign in part]


def _value(form, part):
    """Return what a part of a command stands for, None if it is not as the form wants it."""
    if form == "TEXT":
        return _few_steps(part)
    if form == "WORD":
        return _bits(part)
    if form == "W":
        return _width(part)
    return _number(part)


def _values(words):
    """Return the list of the values behind the name of a command, None if the words are no command."""
    name, parts = words[0], words[1:]
    if name not in FORMS:
        return None
    forms = FORMS[name]
    if forms == ("TEXT",):
        parts = [" ".join(parts)]
    if len(parts) != len(forms):
        return None
    values = [_value(form, part) for form, part in zip(forms, parts)]
    return None if None in values else values


def _parsed(command):
    """Return the name of a command and the list of its values."""
    if not isinstance(command, str):
        raise InvalidCommand("a command is a string")
    words = command.split(" ")
    values = _values(words)
    if values is None:
        raise InvalidCommand("this is not a row of words that is a command")
    return words[0], values


def _shown_number(number):
    """Return the text of a number, or of None."""
    return NOTHING_SHOWN if number is None else in_decimal(number)


def _shown_ends(ends):
    """Return the text of the bits at which masks end."""
    if ends == []:
        return NOTHING_SHOWN
    return " ".join(["-" if end is None else str(end) for end in ends])


def _shown_shortest(row):
    """Return the text of the shortest steps, or of None."""
    return "-" if row is None else show_steps(row)


def _answer(name, values, steps, other):
    """Return the result of a command that only asks about the steps and the other ones."""
    if name == "run":
        return in_decimal(applied(steps, values[0]))
    if name == "ends":
        return _shown_ends(ends_of(steps, values[0]))
    if name == "same":
        return "yes" if same_function(steps, other) else "no"
    if name == "part":
        return _shown_number(parting_number(steps, other))
    if name == "origins":
        return in_decimal(count_origins(steps, values[0], width=values[1]))
    if name == "fixed":
        return in_decimal(count_fixed(steps, width=values[0]))
    return _shown_shortest(shortest(steps))


class Desk:
    """Runs commands; at first without steps."""

    def __init__(self):
        self._steps = ()
        self._other = ()
        self._reader = None

    def execute(self, command):
        """Run a command and return its result as a text."""
        name, values = _parsed(command)
        if name == "steps":
            return self._begin(values[0])
        if self._reader is None:
            raise NoSteps("no steps were given yet")
        if name == "other":
            self._other = values[0]
            return DONE
        if name == "read":
            return self._read_on(values[0])
        if name == "undo":
            self._reader.undo()
            return DONE
        if name == "rest":
            return show_steps(self._reader.rest)
        return _answer(name, values, self._steps, self._other)

    def _begin(self, steps):
        """Take new steps, with a new reader, and no other ones."""
        self._steps = steps
        self._other = ()
        self._reader = Reader(*steps)
        return DONE

    def _read_on(self, bits):
        """Read bits as one change and return the word that is written."""
        return "".join([str(bit) for bit in self._reader.feed(*bits)])
