"""Origins, partings and other forms of steps in the plainest way, to check the program against."""

from plain_check import TABLE, BIG, PlainRun, bit_of, plain_applied, some_integer

SINGLE = [-1, 1, "c", "f", "s", "t"]


def plain_parting(steps, other, numbers):
    """The first one of some numbers that the steps lead to different integers, or None."""
    for number in numbers:
        if plain_applied(steps, number) != plain_applied(other, number):
            return number
    return None


def written_alike(steps, other, words, many):
    """Whether both write the same bits, by [9], for the bits of all integers of a range."""
    for number in words:
        one, two = PlainRun(steps), PlainRun(other)
        one.feed_number(number, many)
        two.feed_number(number, many)
        if one.written != two.written:
            return False
    return True


def other_form(chance, steps):
    """Steps that do the same in another form."""
    row = []
    for step in steps:
        row.extend(chance.choice(forms_of(chance, step)))
    return tuple(row)


def forms_of(chance, step):
    if step == "c":
        return [("c",), (-1, "t"), ("c", 0), (-2, 1, "t")]
    if step == "s":
        return [("s",), (1, "f"), (0, "s"), (1, "f", "f")]
    if step == "f":
        return [("f",), ("f", "f"), ("f", "f", "f"), (-1, "s"), (-1, 0, "s")]
    if step == "t":
        return [("t",), ("t", "t"), (1, "c"), (0, "t", "t", "t")]
    part = some_integer(chance)
    return [(step,), (step, 0), (part, step - part), (step - part, 0, part)]


def exact_sources(value, step, most):
    """The integers that one step leads to a value; masks that end end below bit `most`."""
    if step not in TABLE:
        return {value - step}
    trigger, writes = TABLE[step]
    found = set()
    for end in range(most):
        if bit_of(value, end) != writes:
            return found
        low = 2 ** end if trigger else 2 ** end - 1
        found.add(value // 2 ** (end + 1) * 2 ** (end + 1) + low)
    if value == -writes:
        found.add(0 if trigger else -1)
    return found


def exact_origins(steps, value, most, limit=5000):
    """The integers that are led to a value, or None if they are too many on the way."""
    values = {value}
    for step in reversed(steps):
        following = set()
        for one in values:
            following |= exact_sources(one, step, most)
            if len(following) > limit:
                return None
        values = following
    return values


def reached(steps, width):
    """A dict from each result of the integers of a width to the ascending list of its origins."""
    found = {}
    for number in range(2 ** width):
        found.setdefault(plain_applied(steps, number), []).append(number)
    return found


def fixed_numbers(steps, width):
    return [number for number in range(2 ** width) if plain_applied(steps, number) == number]


def great_steps(chance, many):
    """Steps with great integers, with as many masks as integers."""
    row = []
    for at in range(many):
        if at % 2:
            row.append(chance.choice("csft"))
        else:
            row.append(chance.choice([chance.randint(-BIG, BIG), some_integer(chance)]))
    return tuple(row)


def all_lists(length):
    """All tuples of so many single steps, in the order of the interface."""
    if length == 0:
        return [()]
    return [(step,) + row for step in SINGLE for row in all_lists(length - 1)]
