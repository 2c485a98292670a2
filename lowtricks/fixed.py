"""Fixed numbers, which steps lead to themselves, and steps that are applied again and again."""

from lowtricks.alike import same_function
from lowtricks.errors import InvalidTimes, NotFixed
from lowtricks.layers import check_index, count_below, count_numbers, is_below, nth_number, walk_numbers
from lowtricks.reading import check_width
from lowtricks.steps import applied, changed, check_number, check_steps, is_whole

MOST_TIMES = 300

# No steps: what leads each number to itself.
NOTHING = ()


def count_fixed(steps, *, width):
    """Return the number of the fixed integers from 0 to 2 ** width - 1."""
    check_steps(steps)
    check_width(width)
    return count_numbers((steps, NOTHING), width)


def nth_fixed(steps, index, *, width):
    """Return the fixed integer with an index among those from 0 to 2 ** width - 1, ascending."""
    check_steps(steps)
    check_index(index)
    check_width(width)
    return nth_number((steps, NOTHING), index, width)


def fixed_index(steps, number, *, width):
    """Return the index of a fixed number among those from 0 to 2 ** width - 1."""
    check_steps(steps)
    check_number(number)
    check_width(width)
    if not is_below(number, width) or applied(steps, number) != number:
        raise NotFixed("the number is not a fixed one of this width")
    return count_below((steps, NOTHING), number, width)


def walk_fixed(steps, *, width):
    """Yield the fixed integers from 0 to 2 ** width - 1, ascending."""
    check_steps(steps)
    check_width(width)
    pair = (steps, NOTHING)
    yield from walk_numbers(pair, width)


def works_once(steps):
    """Return whether the steps, applied twice, do the same as once."""
    check_steps(steps)
    return same_function(steps + steps, steps)


def repeated(steps, number, times):
    """Return the number after the steps were applied so many times."""
    check_steps(steps)
    check_number(number)
    if not is_whole(times) or not 0 <= times <= MOST_TIMES:
        raise InvalidTimes("times are an integer from 0 to 300")
    for _ in range(times):
        for step in steps:
            number = changed(number, step)
    return number
