"""What stands behind a mask as long as it works."""

from lowtricks.reading import check_mask, check_near_place, check_place, read_bit
from lowtricks.steps import MASKS, applied, joined


def _behind(steps, index):
    """Return the merged steps behind a mask, and the bit that the mask writes for them to read."""
    return joined(steps[index + 1:]), MASKS[steps[index]][1]


def tail_after(steps, index, place):
    """Return what stands behind a mask after so many bits if it works until then, merged."""
    check_mask(steps, index)
    check_place(place)
    tail, bit = _behind(steps, index)
    before = None
    many = 0
    # The place may be far off, but a tail that stays once stays for good.
    while many < place and tail != before:
        before = tail
        tail = read_bit(tail, bit)[1]
        many += 1
    return tail


def tails_of(steps, index):
    """Yield what stands behind a mask after 0, 1, 2 .. bits, up to the first one that stays."""
    check_mask(steps, index)
    tail, bit = _behind(steps, index)
    before = None
    while tail != before:
        yield tail
        before = tail
        tail = read_bit(tail, bit)[1]


def settled_at(steps, index):
    """Return the least number of bits from which on what stands behind a mask stays."""
    return len(list(tails_of(steps, index))) - 1


def written_while(steps, index, place):
    """Return the integer made of the lowest `place` bits that are written while a mask works."""
    check_mask(steps, index)
    check_near_place(place)
    tail, bit = _behind(steps, index)
    # -bit has the bit that the mask writes at every place.
    return applied(tail, -bit) & ((1 << place) - 1)
