"""The origins of a value: the integers that steps lead to it."""

from lowtricks.errors import InvalidNumber
from lowtricks.layers import check_index, count_below, count_numbers, is_below, is_met, nth_number, read_both
from lowtricks.reading import check_width
from lowtricks.steps import applied, check_number, check_steps


def is_value(steps, value):
    """Return whether an integer has an origin, of any size, also below 0."""
    check_steps(steps)
    check_number(value)
    pairs = [(steps, value)]
    seen = {pairs[0]: True}
    at = 0
    while at < len(pairs):
        # From some bit on, an integer has only zeros or only ones.
        if is_met(pairs[at], 0) or is_met(pairs[at], -1):
            return True
        for bit in (0, 1):
            after = read_both(pairs[at], bit)
            if after is not None and after not in seen:
                seen[after] = True
                pairs.append(after)
        at += 1
    return False


def count_origins(steps, value, *, width):
    """Return the number of the origins of a value from 0 to 2 ** width - 1."""
    check_steps(steps)
    check_number(value)
    check_width(width)
    return count_numbers((steps, value), width)


def nth_origin(steps, value, index, *, width):
    """Return the origin of a value with an index among those from 0 to 2 ** width - 1, ascending."""
    check_steps(steps)
    check_number(value)
    check_index(index)
    check_width(width)
    return nth_number((steps, value), index, width)


def origin_index(steps, number, *, width):
    """Return the index of a number among the origins from 0 to 2 ** width - 1 of its result."""
    check_steps(steps)
    check_number(number)
    check_width(width)
    if not is_below(number, width):
        raise InvalidNumber("the number is not below 2 to the power of the width")
    return count_below((steps, applied(steps, number)), number, width)
