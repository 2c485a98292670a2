"""Texts of steps, and integers in decimal."""

from lowtricks.errors import InvalidText
from lowtricks.steps import MASKS, check_steps

NOTHING_SHOWN = "none"

# Python converts only some thousand digits at once, but integers may be of
# any size, so they are converted in parts of so many digits.
_PART_DIGITS = 60
_PART = 10 ** 60


def is_decimal(text):
    """Return whether a string is an integer from 0 on in decimal, without leading zeros."""
    if text == "" or text.strip("0123456789") != "":
        return False
    return text == "0" or not text.startswith("0")


def from_decimal(digits):
    """Return the integer from 0 on with some digits, without a check."""
    head = len(digits) % _PART_DIGITS
    number = int("0" + digits[:head])
    for at in range(head, len(digits), _PART_DIGITS):
        number = number * _PART + int(digits[at:at + _PART_DIGITS])
    return number


def in_decimal(number):
    """Return an integer in decimal, with `-` ahead if it is negative."""
    left = abs(number)
    parts = []
    while left >= _PART:
        parts.append(str(int(left) % _PART).zfill(_PART_DIGITS))
        left = left // _PART
    parts.append(str(left))
    sign = "-" if number < 0 else ""
    return sign + "".join(parts[::-1])


def _shown_step(step):
    """Return the word of a step."""
    if step in MASKS:
        return step
    sign = "" if step < 0 else "+"
    return sign + in_decimal(step)


def show_steps(steps):
    """Return the text of steps."""
    check_steps(steps)
    if steps == ():
        return NOTHING_SHOWN
    return " ".join([_shown_step(step) for step in steps])


def _found_step(word):
    """Return the step with a word, or None."""
    if word in MASKS:
        return word
    sign, digits = word[:1], word[1:]
    if sign not in ("+", "-") or word == "-0" or not is_decimal(digits):
        return None
    number = from_decimal(digits)
    return number if sign == "+" else -number


def found_steps(text):
    """Return the steps with a text, None if there are none (any value)."""
    if not isinstance(text, str):
        return None
    if text == NOTHING_SHOWN:
        return ()
    steps = [_found_step(word) for word in text.split(" ")]
    return None if None in steps else tuple(steps)


def read_steps(text):
    """Return the steps with a text."""
    steps = found_steps(text)
    if steps is None:
        raise InvalidText("a text of steps has masks and integers with a sign, and single spaces between")
    return steps
