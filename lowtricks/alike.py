"""Whether two lists of steps do the same, and the numbers that tell them apart."""

from lowtricks.layers import count_numbers, read_both
from lowtricks.reading import check_width
from lowtricks.steps import check_steps, exchanged


def same_function(steps, other):
    """Return whether two tuples of steps do the same."""
    check_steps(steps)
    check_steps(other)
    pairs = [(steps, other)]
    seen = {pairs[0]: True}
    at = 0
    # Few pairs are ever reached, so no parting among them is none at all.
    while at < len(pairs):
        for bit in (0, 1):
            after = read_both(pairs[at], bit)
            if after is None:
                return False
            if after not in seen:
                seen[after] = True
                pairs.append(after)
        at += 1
    return True


def _read_on(least, place, found):
    """Read one more bit.

    `least` leads each pair to the least number whose bits below `place` leave
    it, `found` is the least number so far that parts the steps, or None.
    Returns both for the next bit.
    """
    following = {}
    for pair in least:
        for bit in (0, 1):
            number = least[pair] + (bit << place)
            if found is not None and number >= found:
                continue
            after = read_both(pair, bit)
            if after is None:
                found = number
            else:
                following[after] = min(following.get(after, number), number)
    return following, found


def parting_number(steps, other):
    """Return the least integer from 0 on that two tuples of steps lead to different integers, or None."""
    check_steps(steps)
    check_steps(other)
    least = {(steps, other): 0}
    found = None
    seen = {}
    place = 0
    while least:
        following, found = _read_on(least, place, found)
        for pair in least:
            seen[pair] = least[pair]
        # The same bits behind a pair make a greater number at a higher place,
        # so it only goes on from there with less than before.
        least = {pair: number for pair, number in following.items() if pair not in seen or number < seen[pair]}
        place += 1
    return found


def parting_below(steps, other):
    """Return the greatest integer below 0 that two tuples of steps lead to different integers, or None."""
    found = parting_number(exchanged(steps), exchanged(other))
    return None if found is None else -1 - found


def count_alike(steps, other, *, width):
    """Return how many integers from 0 to 2 ** width - 1 two tuples of steps lead to the same integer."""
    check_steps(steps)
    check_steps(other)
    check_width(width)
    return count_numbers((steps, other), width)
