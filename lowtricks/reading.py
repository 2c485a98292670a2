"""Steps that are run on the bits of a number, from bit 0 on."""

from lowtricks.errors import InvalidIndex, InvalidPlace, InvalidWidth, InvalidWord
from lowtricks.steps import MASKS, changed, check_number, check_steps, is_whole, joined

# The same bound holds for the characters of a word, a width, and a place to which bits are worked out.
MOST_BITS = 200


def check_word(word):
    """Raise InvalidWord unless the value is a word."""
    if not isinstance(word, str) or len(word) > MOST_BITS or word.strip("01") != "":
        raise InvalidWord("a word is a string of at most 200 characters 0 and 1")


def check_width(width):
    """Raise InvalidWidth unless the value is a width."""
    if not is_whole(width) or not 0 <= width <= MOST_BITS:
        raise InvalidWidth("a width is an integer from 0 to 200")


def check_place(place):
    """Raise InvalidPlace unless the value is an integer from 0 on."""
    if not is_whole(place) or place < 0:
        raise InvalidPlace("a place is an integer from 0 on")


def check_near_place(place):
    """Raise InvalidPlace unless the value is an integer from 0 to 200."""
    if not is_whole(place) or not 0 <= place <= MOST_BITS:
        raise InvalidPlace("a place is an integer from 0 to 200")


def check_mask(steps, index):
    """Raise InvalidSteps unless these are steps, InvalidIndex unless the index is that of a mask."""
    check_steps(steps)
    if not is_whole(index) or not 0 <= index < len(steps) or steps[index] not in MASKS:
        raise InvalidIndex("there is no mask with this index")


def read_bit(steps, bit):
    """Return the bit that the steps write for a bit, and the rest, without a check."""
    rest = []
    for step in steps:
        if step in MASKS:
            trigger, written = MASKS[step]
            if bit != trigger:
                rest.append(step)
            bit = written
        else:
            total = step + bit
            rest.append(total // 2)
            bit = total & 1
    return bit, joined(rest)


def read_word(steps, word):
    """Return the written bits, as a word, and the rest after the bits of a word."""
    check_steps(steps)
    check_word(word)
    rest = joined(steps)
    written = []
    for sign in word:
        bit, rest = read_bit(rest, int(sign))
        written.append(str(bit))
    return "".join(written), rest


def _lowest(number, bit):
    """Return the lowest place at which a number has a bit, or None."""
    found = number if bit == 1 else -1 - number
    if found == 0:
        return None
    return (found & -found).bit_length() - 1


def ends_of(steps, number):
    """Return a list with, for each mask, the bit at which it ends, or None."""
    check_steps(steps)
    check_number(number)
    ends = []
    for step in steps:
        if step in MASKS:
            ends.append(_lowest(number, MASKS[step][0]))
        number = changed(number, step)
    return ends


def listener_at(steps, number, place):
    """Return the index of the first mask that has not ended ahead of the bit `place`, or None."""
    check_steps(steps)
    check_number(number)
    check_place(place)
    masks = [index for index, step in enumerate(steps) if step in MASKS]
    for index, end in zip(masks, ends_of(steps, number)):
        if end is None or end >= place:
            return index
    return None


def _read_on(least, mask, place):
    """Read one more bit ahead of a mask that works.

    `least` leads each rest of the steps ahead of the mask to the least number
    whose bits below `place` leave it. Returns the least number that ends the
    mask at this bit (or None), and such a dict for the next bit.
    """
    trigger = MASKS[mask][0]
    ending = None
    going = {}
    for rest in least:
        for bit in (0, 1):
            number = least[rest] + (bit << place)
            written, after = read_bit(rest, bit)
            if written != trigger:
                going[after] = min(going.get(after, number), number)
            elif ending is None or number < ending:
                ending = number
    return ending, going


def _least_endings(steps, index, many):
    """Return, for each of so many bits, the least number that ends the mask there, or None."""
    # Numbers with the same rest go on alike, so the least one stands for all
    # of them, and by [10] only few rests are possible at each bit.
    least = {joined(steps[:index]): 0}
    endings = []
    for place in range(many):
        ending, least = _read_on(least, steps[index], place)
        endings.append(ending)
    return endings


def end_places(steps, index, *, width):
    """Return the ascending list of the bits below `width` at which a mask ends for some number."""
    check_mask(steps, index)
    check_width(width)
    endings = _least_endings(steps, index, width)
    return [place for place, ending in enumerate(endings) if ending is not None]


def least_ending(steps, index, place):
    """Return the least number from 0 on for which a mask ends at a bit, or None."""
    check_mask(steps, index)
    check_near_place(place)
    return _least_endings(steps, index, place + 1)[place]
