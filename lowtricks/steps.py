"""Steps: integers that are added, and masks that change the lowest bits."""

from lowtricks.errors import InvalidNumber, InvalidSteps

# For each mask: the bit at which it ends, and the bit that it writes until then.
MASKS = {"c": (1, 0), "s": (0, 1), "f": (1, 1), "t": (0, 0)}

_EXCHANGED = {"c": "s", "s": "c", "f": "t", "t": "f"}
_PLAIN = {"c": (-1, "t"), "s": (1, "f")}


def is_whole(value):
    """Return whether any value is an integer; True and False are none."""
    return isinstance(value, int) and not isinstance(value, bool)


def is_step(value):
    """Return whether any value is a step."""
    if isinstance(value, str):
        return value in MASKS
    return is_whole(value)


def is_steps(value):
    """Return whether any value is a tuple of steps."""
    return isinstance(value, tuple) and all([is_step(step) for step in value])


def check_steps(steps):
    """Raise InvalidSteps unless the value is steps."""
    if not is_steps(steps):
        raise InvalidSteps("steps are a tuple of integers and masks")


def check_number(number):
    """Raise InvalidNumber unless the value is an integer."""
    if not is_whole(number):
        raise InvalidNumber("a number is an integer")


def changed(number, step):
    """Return the number after one step, without a check."""
    if step == "c":
        return number & (number - 1)
    if step == "s":
        return number | (number + 1)
    if step == "f":
        return number | (number - 1)
    if step == "t":
        return number & (number + 1)
    return number + step


def joined(steps):
    """Return the merged steps of a list or tuple, without a check."""
    rest = []
    for step in steps:
        here = step
        if rest and step not in MASKS and rest[-1] not in MASKS:
            here = rest.pop() + step
        if here != 0:
            rest.append(here)
    return tuple(rest)


def stepped(number, step):
    """Return the number after one step."""
    check_number(number)
    if not is_step(step):
        raise InvalidSteps("a step is an integer or a mask")
    return changed(number, step)


def applied(steps, number):
    """Return the result of the steps for a number."""
    check_steps(steps)
    check_number(number)
    for step in steps:
        number = changed(number, step)
    return number


def merged(steps):
    """Return the merged steps."""
    check_steps(steps)
    return joined(steps)


def plain(steps):
    """Return merged steps that do the same, without the masks c and s."""
    check_steps(steps)
    parts = []
    for step in steps:
        parts.extend(_PLAIN.get(step, (step,)))
    return joined(parts)


def exchanged(steps):
    """Return the steps that do to -1 - x what these do to x; not merged."""
    check_steps(steps)
    return tuple([_EXCHANGED[step] if step in MASKS else -step for step in steps])
