"""Numbers that steps lead to a goal, found bit by bit.

A goal is other steps, which read the same bits, or an integer, which has its
bits whatever is read. A pair holds some steps and a goal, or what is left of
both behind some bits.
"""

from lowtricks.errors import InvalidIndex
from lowtricks.reading import read_bit
from lowtricks.steps import applied, is_whole


def check_index(index):
    """Raise InvalidIndex unless the value is an integer from 0 on."""
    if not is_whole(index) or index < 0:
        raise InvalidIndex("an index is an integer from 0 on")


def is_below(number, width):
    """Return whether a number is one from 0 to 2 ** width - 1."""
    return 0 <= number < (1 << width)


def read_both(pair, bit):
    """Return the pair behind a bit, or None if the steps write another bit than the goal."""
    steps, goal = pair
    written, rest = read_bit(steps, bit)
    if isinstance(goal, tuple):
        wanted, left = read_bit(goal, bit)
    else:
        wanted, left = goal & 1, goal >> 1
    if written != wanted:
        return None
    return rest, left


def is_met(pair, number):
    """Return whether the steps of a pair lead a number to the goal."""
    steps, goal = pair
    if isinstance(goal, tuple):
        goal = applied(goal, number)
    return applied(steps, number) == goal


def _following(counts, ways):
    """Return how many numbers with one more bit lead to each pair."""
    following = {}
    for pair in ways:
        for after in ways[pair]:
            if after is not None:
                following[after] = following.get(after, 0) + counts[pair]
    return following


def _layers(pair, width):
    """Read all numbers of a width at once.

    Returns three things: for each bit, a dict that leads each pair to the two
    pairs (or None) behind a 0 and a 1; for each number of bits up to the width,
    a dict that leads each pair to the number of ways to it; and a dict of the
    pairs at the end that meet the goal if only zeros follow.
    """
    ways = []
    counts = [{pair: 1}]
    for place in range(width):
        ways.append({here: (read_both(here, 0), read_both(here, 1)) for here in counts[place]})
        counts.append(_following(counts[place], ways[place]))
    ends = {here: True for here in counts[width] if is_met(here, 0)}
    return ways, counts, ends


def _ahead(ways, bit, ends):
    """Return the pairs that a bit leads to one of the ends."""
    return {pair: True for pair in ways if ways[pair][bit] in ends}


def _many(counts, pairs):
    """Return in how many ways some pairs are reached."""
    return sum([counts[pair] for pair in pairs])


def count_numbers(pair, width):
    """Return how many numbers from 0 to 2 ** width - 1 meet the goal of a pair."""
    _, counts, ends = _layers(pair, width)
    return _many(counts[width], ends)


def nth_number(pair, index, width):
    """Return the number that meets the goal and has an index, or raise InvalidIndex."""
    ways, counts, ends = _layers(pair, width)
    if index >= _many(counts[width], ends):
        raise InvalidIndex("there are not so many numbers")
    number = 0
    # The highest bit decides first, so the bits are chosen from the end on.
    for place in reversed(range(width)):
        low = _ahead(ways[place], 0, ends)
        many = _many(counts[place], low)
        if index < many:
            ends = low
        else:
            ends = _ahead(ways[place], 1, ends)
            index = index - many
            number = number + (1 << place)
    return number


def count_below(pair, number, width):
    """Return how many of the numbers from 0 to 2 ** width - 1 that meet the goal are less than a number."""
    ways, counts, ends = _layers(pair, width)
    below = 0
    for place in reversed(range(width)):
        bit = number >> place & 1
        if bit == 1:
            below = below + _many(counts[place], _ahead(ways[place], 0, ends))
        ends = _ahead(ways[place], bit, ends)
    return below


def walk_numbers(pair, width):
    """Yield the numbers from 0 to 2 ** width - 1 that meet the goal of a pair, ascending."""
    ways, _, ends = _layers(pair, width)
    waiting = [(width, 0, ends)]
    while waiting:
        place, number, ends = waiting.pop()
        if place == 0 and ends:
            yield number
        elif ends:
            place = place - 1
            for bit in (1, 0):
                waiting.append((place, number + (bit << place), _ahead(ways[place], bit, ends)))
