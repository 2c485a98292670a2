"""What DOC.md says, done again in the plainest way, to check the program against."""

import random

TABLE = {"c": (1, 0), "s": (0, 1), "f": (1, 1), "t": (0, 0)}
BIG = 10 ** 32


def bit_of(number, place):
    return number // 2 ** place % 2


def plain_end(number, mask):
    """The bit at which a mask ends, found by looking at one bit after the other."""
    for place in range(number.bit_length() + 2):
        if bit_of(number, place) == TABLE[mask][0]:
            return place
    return None


def plain_step(number, step):
    """One step as in [7]: written bits up to the end, bits as they are behind it."""
    if step not in TABLE:
        return number + step
    end = plain_end(number, step)
    written = TABLE[step][1]
    if end is None:
        return -written
    return number // 2 ** (end + 1) * 2 ** (end + 1) + written * (2 ** (end + 1) - 1)


def plain_applied(steps, number):
    for step in steps:
        number = plain_step(number, step)
    return number


def plain_merged(steps):
    """Merge by single changes until there is nothing left to change."""
    steps = list(steps)
    while True:
        if 0 in steps:
            steps.remove(0)
            continue
        for at in range(len(steps) - 1):
            if steps[at] not in TABLE and steps[at + 1] not in TABLE:
                steps[at:at + 2] = [steps[at] + steps[at + 1]]
                break
        else:
            return tuple(steps)


class PlainRun:
    """Each step reads each bit by itself, as in [9]; nothing is merged on the way."""

    def __init__(self, steps):
        self.parts = list(enumerate(steps))
        self.ends = {}
        self.written = []

    def feed(self, bit):
        place = len(self.written)
        left = []
        for index, step in self.parts:
            if step in TABLE:
                trigger, writes = TABLE[step]
                if bit == trigger:
                    self.ends[index] = place
                else:
                    left.append((index, step))
                bit = writes
            else:
                left.append((index, (step + bit) // 2))
                bit = (step + bit) % 2
        self.parts = left
        self.written.append(bit)

    def feed_number(self, number, many):
        for place in range(many):
            self.feed(bit_of(number, place))

    def rest(self):
        return plain_merged([step for _, step in self.parts])

    def works(self, index):
        return index in [at for at, _ in self.parts]

    def behind(self, index):
        return plain_merged([step for at, step in self.parts if at > index])

    def listener(self):
        masks = [at for at, step in self.parts if step in TABLE]
        return masks[0] if masks else None

    def number(self):
        return sum(bit * 2 ** place for place, bit in enumerate(self.written))

    def word(self):
        return "".join(str(bit) for bit in self.written)


def masks_of(steps):
    return [index for index, step in enumerate(steps) if step in TABLE]


def plain_endings(steps, index, width):
    """For each bit below a width the least number that ends the mask there, from all numbers of that width."""
    found = {}
    for number in range(2 ** width):
        end = plain_end(plain_applied(steps[:index], number), steps[index])
        if end is not None and end < width:
            found.setdefault(end, number)
    return found


def came_from(values, step, many):
    """All numbers below 2 ** many that a step leads to one of the values, modulo 2 ** many."""
    size = 2 ** many
    if step not in TABLE:
        return {(value - step) % size for value in values}
    trigger, writes = TABLE[step]
    found = set()
    for value in values:
        for end in range(many):
            if bit_of(value, end) != writes:
                break
            low = 2 ** end if trigger else 2 ** end - 1
            found.add(value // 2 ** (end + 1) * 2 ** (end + 1) + low)
        else:
            found.add(0 if trigger else size - 1)
    return found


def ending_by_inverse(steps, index, place):
    """The least number that ends a mask at a bit, from all numbers that are led to what it must read there."""
    trigger = TABLE[steps[index]][0]
    values = {2 ** place if trigger else 2 ** place - 1}
    for step in reversed(steps[:index]):
        values = came_from(values, step, place + 1)
    return min(values, default=None)


def some_integer(chance):
    kind = chance.randrange(6)
    if kind == 0:
        return 0
    if kind < 4:
        return chance.randint(-9, 9)
    if kind == 4:
        return chance.choice([-1, 1]) * 2 ** chance.randrange(107)
    return chance.randint(-BIG, BIG)


def some_steps(chance, most=8, small=False):
    steps = []
    for _ in range(chance.randint(0, most)):
        if chance.randrange(5) < 3:
            steps.append(chance.choice("csft"))
        elif small:
            steps.append(chance.randint(-9, 9))
        else:
            steps.append(some_integer(chance))
    return tuple(steps)


def some_number(chance):
    kind = chance.randrange(4)
    if kind == 0:
        return chance.randint(-20, 20)
    if kind == 1:
        return chance.choice([-1, 1]) * 2 ** chance.randrange(230) + chance.choice([-1, 0, 0, 1])
    size = chance.randrange(1, 231)
    return chance.randrange(-2 ** size, 2 ** size)


def many_steps(seed, times, most=8, small=False):
    """Some special lists of steps, and many by chance, the same ones in each run."""
    chance = random.Random(seed)
    special = [(), (0,), (0, 0), (1, -1), ("c",), ("s",), ("f",), ("t",), (3, -3, "c", 0, "s", 2, -2),
               (5, "c", -5), ("c", 5, "f", "s"), ("c", "s", "f", "t"), ("f", "f", 3), ("t", "c"), (-1, "t"), (1, "f")]
    return special + [some_steps(chance, most, small) for _ in range(times)]


def many_numbers(seed, times):
    chance = random.Random(seed)
    special = [0, -1, 1, -2, 2, 44, 47, -44, 2 ** 200, -2 ** 200, 2 ** 200 - 1, 10 ** 70 - 1, 1 - 10 ** 70]
    return special + [some_number(chance) for _ in range(times)]


def limit_steps(seed, times):
    """Lists of 20 steps with integers at and near the limits."""
    chance = random.Random(seed)
    rows = []
    for _ in range(times):
        row = []
        for at in range(20):
            if chance.randrange(2) or at == 19:
                row.append(chance.choice("csft"))
            else:
                row.append(chance.choice([BIG, -BIG, chance.randint(-BIG, BIG), 2 ** chance.randrange(107)]))
        rows.append(tuple(row))
    rows.append((BIG, "c") * 10)
    rows.append((-BIG, "s", BIG, "f") * 5)
    rows.append(("c", BIG, "t", -BIG) * 5)
    rows.append((2 ** 106, "f", -(2 ** 53), "t") * 5)
    return rows
