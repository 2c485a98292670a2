"""Lists of single steps that do the same as some steps."""

from lowtricks.alike import same_function
from lowtricks.errors import InvalidLength
from lowtricks.steps import check_steps, is_whole

SINGLE_STEPS = (-1, 1, "c", "f", "s", "t")
MOST_LISTED = 3
MOST_SEARCHED = 4


def _check_length(length, most):
    """Raise InvalidLength unless the value is an integer from 0 to the most."""
    if not is_whole(length) or not 0 <= length <= most:
        raise InvalidLength(f"a length is an integer from 0 to {most}")


def _all_lists(length):
    """Return all tuples of so many single steps, in their order."""
    rows = [()]
    for _ in range(length):
        rows = [row + (step,) for row in rows for step in SINGLE_STEPS]
    return rows


def _first_like(steps, length):
    """Return the first tuple of so many single steps that does the same, or None."""
    for row in _all_lists(length):
        if same_function(row, steps):
            return row
    return None


def shortest(steps, *, longest=4):
    """Return the first one of the shortest tuples of single steps that do the same, or None."""
    check_steps(steps)
    _check_length(longest, MOST_SEARCHED)
    for length in range(longest + 1):
        row = _first_like(steps, length)
        if row is not None:
            return row
    return None


def walk_lists(steps, length):
    """Yield all tuples of so many single steps that do the same, in their order."""
    check_steps(steps)
    _check_length(length, MOST_LISTED)
    for row in _all_lists(length):
        if same_function(row, steps):
            yield row


def count_lists(steps, length):
    """Return how many tuples of so many single steps do the same."""
    return len(list(walk_lists(steps, length)))


def count_functions(length):
    """Return the number of different functions that the tuples of so many single steps have."""
    _check_length(length, MOST_LISTED)
    return len([row for row in _all_lists(length) if _first_like(row, length) == row])
