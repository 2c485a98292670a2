"""Readers, which take the bits of a number one after the other, with undo."""

from lowtricks.errors import InvalidBit, InvalidLength, NothingToUndo, TooMany
from lowtricks.reading import MOST_BITS, ends_of, listener_at, read_bit
from lowtricks.steps import MASKS, applied, check_number, check_steps, is_whole, joined


def _check_bits(bits):
    """Raise InvalidBit unless all values are the integers 0 and 1."""
    for bit in bits:
        if not is_whole(bit) or bit not in (0, 1):
            raise InvalidBit("a bit is the integer 0 or 1")


def _copy_state(reader, other):
    """Give the state of a reader, with its changes, to another one of the same steps."""
    other._bits = reader._bits
    other._rest = reader._rest
    other._past = list(reader._past)


class Reader:
    """Reads the bits of a number, from bit 0 on."""

    def __init__(self, *steps):
        check_steps(steps)
        self._steps = steps
        self._bits = ()
        self._rest = joined(steps)
        # The bits and the rest ahead of each feed that can be reverted.
        self._past = []

    def feed(self, *bits):
        """Read bits, as one change; return the list of the written bits."""
        _check_bits(bits)
        return self._take(bits)

    def _take(self, bits):
        """Read a tuple of bits, without a check."""
        if bits == ():
            return []
        self._past.append((self._bits, self._rest))
        written = []
        for bit in bits:
            new, self._rest = read_bit(self._rest, bit)
            written.append(new)
        self._bits = self._bits + bits
        return written

    def undo(self):
        """Revert the last feed that was not reverted."""
        if self._past == []:
            raise NothingToUndo("there is no feed that could be reverted")
        self._bits, self._rest = self._past.pop()

    def _number(self):
        """Return the integer made of the bits that were read."""
        return sum([bit << at for at, bit in enumerate(self._bits)])

    @property
    def rest(self):
        """The rest of the steps."""
        return self._rest

    @property
    def written(self):
        """The integer made of the written bits."""
        return applied(self._steps, self._number()) & ((1 << len(self._bits)) - 1)

    @property
    def place(self):
        """The number of bits that were read."""
        return len(self._bits)

    @property
    def listener(self):
        """The index in the steps of the listener, or None."""
        return listener_at(self._steps, self._number(), len(self._bits))

    def ended(self):
        """Return a list of tuples (index in the steps, bit) for the masks that have ended, in their order."""
        masks = [index for index, step in enumerate(self._steps) if step in MASKS]
        ends = ends_of(self._steps, self._number())
        # Whether a mask ends at a bit that was read does not depend on the bits above.
        found = [(end, index) for index, end in zip(masks, ends) if end is not None and end < len(self._bits)]
        return [(index, end) for end, index in sorted(found)]

    def finish(self, number):
        """Return the result for the bits that were read with a number above them."""
        check_number(number)
        return applied(self._steps, (number << len(self._bits)) + self._number())

    def twin(self):
        """Return an independent reader in the same state, with the same changes to undo."""
        other = Reader(*self._steps)
        _copy_state(self, other)
        return other

    def __len__(self):
        """Return the number of bits that were read."""
        return len(self._bits)


class BoundReader(Reader):
    """A reader of at most so many bits."""

    def __init__(self, *steps, longest=60):
        super().__init__(*steps)
        if not is_whole(longest) or not 0 <= longest <= MOST_BITS:
            raise InvalidLength("the most bits are an integer from 0 to 200")
        self._longest = longest

    def feed(self, *bits):
        """Read bits, as one change; return the list of the written bits."""
        _check_bits(bits)
        if len(self._bits) + len(bits) > self._longest:
            raise TooMany(self._longest)
        return self._take(bits)

    def twin(self):
        """Return an independent reader in the same state, with the same changes to undo and the same bound."""
        other = BoundReader(*self._steps, longest=self._longest)
        _copy_state(self, other)
        return other
