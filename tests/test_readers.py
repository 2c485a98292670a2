import random
import unittest

from lowtricks.errors import InvalidBit, InvalidLength, InvalidNumber, InvalidSteps, NothingToUndo, TooMany
from lowtricks.readers import BoundReader, Reader
from lowtricks.reading import read_word
from plain_check import BIG, PlainRun, limit_steps, many_numbers, many_steps, plain_applied

ANY = [None, True, False, "", "c", "1", b"c", (), (1,), ("c",), [], ["c"], [[1]], {}, {"c": 1}, ((("c",),),)]
NO_BITS = ANY + ["0", "1", 2, -1, 10, 10 ** 70, b"1", [0], (0,)]


class Checks(unittest.TestCase):
    def check_error(self, expected, function, *values, **named):
        with self.assertRaises(ValueError, msg=values) as caught:
            function(*values, **named)
        self.assertIs(type(caught.exception), expected, (values, named))
        return caught.exception

    def check_too_many(self, limit, function, *values):
        error = self.check_error(TooMany, function, *values)
        self.assertEqual(error.limit, limit)
        self.assertIs(type(error.limit), int)

    def check_state(self, reader, steps, bits):
        """All that a reader tells, against each step reading each bit by itself."""
        run = PlainRun(steps)
        for bit in bits:
            run.feed(bit)
        shown = (steps, bits)
        self.assertEqual(reader.rest, run.rest(), shown)
        self.assertIs(type(reader.rest), tuple)
        self.assertEqual(reader.written, run.number(), shown)
        self.assertEqual(reader.place, len(bits), shown)
        self.assertEqual(len(reader), len(bits), shown)
        self.assertEqual(reader.listener, run.listener(), shown)
        ended = sorted((bit, index) for index, bit in run.ends.items())
        self.assertEqual(reader.ended(), [(index, bit) for bit, index in ended], shown)
        low = sum(bit * 2 ** at for at, bit in enumerate(bits))
        for above in [0, -1, 5]:
            self.assertEqual(reader.finish(above), plain_applied(steps, above * 2 ** len(bits) + low), shown)


class Examples(unittest.TestCase):
    def test_reader(self):
        reader = Reader('c', 's')
        found = [reader.feed(0), reader.rest, reader.listener, reader.feed(0, 1), reader.rest, reader.ended(),
                 reader.written, reader.place, reader.finish(5)]
        self.assertEqual(found, [[1], ('c',), 0, [0, 0], (), [(1, 0), (0, 2)], 1, 3, 41])

    def test_bound_reader(self):
        reader = BoundReader('f', longest=2)
        found = [reader.feed(0, 0), reader.undo(), len(reader), reader.feed(1), reader.rest, reader.twin().written]
        self.assertEqual(found, [[1, 1], None, 0, [1], (), 1])

    def test_too_many(self):
        with self.assertRaises(TooMany) as caught:
            BoundReader('f', longest=2).feed(0, 0, 0)
        self.assertEqual(caught.exception.limit, 2)

    def test_behind_a_mask(self):
        """[11]: while c works, `5, f, s` behind it becomes `2, s`, then `1`, then nothing."""
        reader = Reader('c', 5, 'f', 's')
        rests, written = [reader.rest], []
        for _ in range(4):
            written.extend(reader.feed(0))
            rests.append(reader.rest)
        self.assertEqual(rests, [('c', 5, 'f', 's'), ('c', 2, 's'), ('c', 1), ('c',), ('c',)])
        self.assertEqual(written, [1, 1, 1, 0])
        self.assertEqual(reader.ended(), [(2, 0), (3, 1)])
        self.assertEqual((reader.listener, reader.feed(1), reader.listener), (0, [0], None))
        self.assertEqual(reader.ended(), [(2, 0), (3, 1), (0, 4)])


class AtFirst(Checks):
    def test_state(self):
        for steps in many_steps(220, 100, 20) + limit_steps(220, 10):
            for reader in [Reader(*steps), BoundReader(*steps), BoundReader(*steps, longest=0)]:
                self.check_state(reader, steps, [])

    def test_merged(self):
        self.assertEqual(Reader(2, 0, "c", 3, -3, "s").rest, (2, "c", "s"))
        self.assertEqual(Reader(0).rest, ())

    def test_more_than_20_steps(self):
        reader = Reader(*["c"] * 30)
        self.assertEqual(reader.feed(*[1] * 31), [0] * 30 + [1])
        self.assertEqual(reader.ended(), [(at, at) for at in range(30)])

    def test_errors_of_steps(self):
        for made in [Reader, BoundReader]:
            for value in ANY:
                if value != "c":
                    self.check_error(InvalidSteps, made, value)
                    self.check_error(InvalidSteps, made, "c", 5, value)
                    self.check_error(InvalidSteps, made, *["c"] * 20, value)


class Feeding(Checks):
    def test_many_feeds(self):
        chance = random.Random(221)
        for steps in many_steps(221, 150, 12) + limit_steps(221, 10):
            reader = Reader(*steps)
            bits = []
            for _ in range(8):
                more = [chance.randrange(2) for _ in range(chance.choice([0, 1, 1, 2, 5, 21]))]
                before = PlainRun(steps)
                for bit in bits + more:
                    before.feed(bit)
                found = reader.feed(*more)
                self.assertEqual(found, before.written[len(bits):], (steps, bits, more))
                self.assertIs(type(found), list)
                bits = bits + more
                self.check_state(reader, steps, bits)

    def test_against_words(self):
        chance = random.Random(222)
        for steps in many_steps(222, 60, 20) + limit_steps(222, 10):
            for word in ["0" * 200, "1" * 200, "".join(chance.choice("01") for _ in range(200))]:
                reader = Reader(*steps)
                written = [reader.feed(*[int(sign) for sign in word[at:at + 20]]) for at in range(0, 200, 20)]
                signs = "".join(str(bit) for row in written for bit in row)
                self.assertEqual((signs, reader.rest), read_word(steps, word))

    def test_the_bits_of_numbers(self):
        """[9]: the written bits below, and the result of the rest for what stands above."""
        for steps in many_steps(223, 40, 10) + limit_steps(223, 5):
            for number in many_numbers(223, 10):
                for many in [0, 1, 7, 70]:
                    reader = Reader(*steps)
                    reader.feed(*[number // 2 ** at % 2 for at in range(many)])
                    above = number // 2 ** many
                    result = plain_applied(steps, number)
                    self.assertEqual(reader.finish(above), result)
                    self.assertEqual(reader.written + plain_applied(reader.rest, above) * 2 ** many, result)

    def test_limits(self):
        chance = random.Random(224)
        for steps in limit_steps(224, 3):
            reader = Reader(*steps)
            bits = []
            for _ in range(120):
                more = [chance.randrange(2) for _ in range(21)]
                reader.feed(*more)
                bits += more
            self.check_state(reader, steps, bits)
            for _ in range(120):
                reader.undo()
            self.check_state(reader, steps, [])

    def test_ended_by_bits_and_then_by_indexes(self):
        reader = Reader("t", "f", "s", "c")
        expected = []
        for bit, ended in [(0, [(0, 0), (3, 0)]), (0, []), (1, [(1, 2)]), (0, [(2, 3)]), (1, [])]:
            reader.feed(bit)
            expected = expected + ended
            self.assertEqual(reader.ended(), expected)
        self.assertEqual(Reader("t", "s").ended(), [])

    def test_new_lists(self):
        reader = Reader("c", "s")
        for found in [reader.feed(0, 1), reader.ended(), reader.feed()]:
            found.append((7, 7))
            found.reverse()
        self.check_state(reader, ("c", "s"), [0, 1])
        self.assertIsNot(reader.ended(), reader.ended())
        found = reader.feed(1)
        found.clear()
        reader.undo()
        self.check_state(reader, ("c", "s"), [0, 1])

    def test_wrong_bits(self):
        for made in [Reader, BoundReader]:
            reader = made("c", 5, "s")
            reader.feed(0)
            for value in NO_BITS:
                for bits in [(value,), (0, value), (1, 0, value), (value, 1), (0,) * 20 + (value,)]:
                    self.check_error(InvalidBit, reader.feed, *bits)
                    self.check_state(reader, ("c", 5, "s"), [0])
            self.assertEqual(reader.feed(0, 1), [int(sign) for sign in read_word(("c", 5, "s"), "001")[0][1:]])
            reader.undo()
            reader.undo()
            self.check_error(NothingToUndo, reader.undo)

    def test_no_numbers(self):
        reader = Reader("c")
        reader.feed(0)
        for value in ANY:
            self.check_error(InvalidNumber, reader.finish, value)
            self.check_state(reader, ("c",), [0])

    def test_finish_changes_nothing(self):
        reader = Reader("c", "s")
        reader.feed(0)
        for number in [0, -1, BIG, -10 ** 70]:
            self.assertEqual(reader.finish(number), plain_applied(("c", "s"), 2 * number))
            self.check_state(reader, ("c", "s"), [0])
        reader.undo()
        self.check_error(NothingToUndo, reader.undo)

    def test_properties_are_not_assigned(self):
        for name in ["rest", "written", "place", "listener"]:
            with self.assertRaises(AttributeError):
                setattr(Reader("c"), name, 0)


class Undoing(Checks):
    def test_back_to_the_start(self):
        chance = random.Random(225)
        for steps in many_steps(225, 80, 12) + limit_steps(225, 5):
            for reader in [Reader(*steps), BoundReader(*steps, longest=200)]:
                rows = []
                for _ in range(10):
                    if rows and chance.randrange(3) == 0:
                        rows.pop()
                        self.assertIsNone(reader.undo())
                    else:
                        rows.append([chance.randrange(2) for _ in range(chance.choice([1, 1, 2, 9]))])
                        reader.feed(*rows[-1])
                    self.check_state(reader, steps, sum(rows, []))
                while rows:
                    rows.pop()
                    self.assertIsNone(reader.undo())
                    self.check_state(reader, steps, sum(rows, []))
                self.check_error(NothingToUndo, reader.undo)
                self.check_state(reader, steps, [])

    def test_nothing_to_undo(self):
        for reader in [Reader(), Reader("c"), BoundReader("c"), BoundReader(longest=0)]:
            for _ in range(3):
                self.check_error(NothingToUndo, reader.undo)
            self.assertEqual(len(reader), 0)

    def test_feed_without_bits(self):
        for reader in [Reader("c", "s"), BoundReader("c", "s", longest=2)]:
            self.assertEqual(reader.feed(), [])
            self.check_error(NothingToUndo, reader.undo)
            reader.feed(0, 1)
            self.assertEqual(reader.feed(), [])
            self.check_state(reader, ("c", "s"), [0, 1])
            reader.undo()
            self.check_state(reader, ("c", "s"), [])
            self.assertEqual(reader.feed(), [])
            self.check_error(NothingToUndo, reader.undo)


class Twins(Checks):
    def test_same_state_and_changes(self):
        chance = random.Random(226)
        for steps in many_steps(226, 60, 10):
            for reader in [Reader(*steps), BoundReader(*steps, longest=100)]:
                rows = [[chance.randrange(2) for _ in range(chance.choice([1, 3]))] for _ in range(chance.randrange(5))]
                for row in rows:
                    reader.feed(*row)
                twin = reader.twin()
                self.assertIs(type(twin), type(reader))
                self.assertIsNot(twin, reader)
                self.check_state(twin, steps, sum(rows, []))
                for at in reversed(range(len(rows))):
                    twin.undo()
                    self.check_state(twin, steps, sum(rows[:at], []))
                self.check_error(NothingToUndo, twin.undo)
                self.check_state(reader, steps, sum(rows, []))

    def test_independent(self):
        for reader in [Reader("c", "s"), BoundReader("c", "s")]:
            reader.feed(0)
            twin = reader.twin()
            twin.feed(1, 0)
            reader.feed(0, 0, 0)
            self.check_state(twin, ("c", "s"), [0, 1, 0])
            self.check_state(reader, ("c", "s"), [0, 0, 0, 0])
            reader.undo()
            reader.undo()
            self.check_state(twin, ("c", "s"), [0, 1, 0])
            self.check_error(NothingToUndo, reader.undo)
            twin.undo()
            self.check_state(twin, ("c", "s"), [0])
            reader.feed(1)
            twin.undo()
            self.check_state(reader, ("c", "s"), [1])
            self.check_error(NothingToUndo, twin.undo)

    def test_twin_of_a_twin(self):
        reader = Reader("f", 3)
        reader.feed(0)
        twin = reader.twin().twin()
        reader.undo()
        self.check_state(twin, ("f", 3), [0])

    def test_same_bound(self):
        for longest in [0, 1, 3, 60, 200]:
            twin = BoundReader("c", longest=longest).twin()
            twin.feed(*[0] * longest)
            self.check_too_many(longest, twin.feed, 0)
            self.check_too_many(longest, twin.twin().feed, 1)


class Bounds(Checks):
    def test_just_beyond(self):
        for longest in [0, 1, 2, 21, 60, 199, 200]:
            reader = BoundReader("c", 5, longest=longest)
            self.assertEqual(len(reader.feed(*[0] * longest)), longest)
            for bits in [(0,), (1,), (1, 0), (0,) * 30]:
                self.check_too_many(longest, reader.feed, *bits)
                self.check_state(reader, ("c", 5), [0] * longest)
            self.assertEqual(reader.feed(), [])
            reader = BoundReader("c", 5, longest=longest)
            self.check_too_many(longest, reader.feed, *[0] * (longest + 1))
            self.check_state(reader, ("c", 5), [])
            self.check_error(NothingToUndo, reader.undo)

    def test_60_when_not_given(self):
        reader = BoundReader("c")
        reader.feed(*[0] * 40)
        self.check_too_many(60, reader.feed, *[1] * 21)
        reader.feed(*[0] * 20)
        self.check_too_many(60, reader.feed, 1)
        self.check_state(reader, ("c",), [0] * 60)

    def test_no_bound_for_readers(self):
        reader = Reader("c")
        reader.feed(*[0] * 300)
        self.assertEqual((len(reader), reader.listener, reader.rest), (300, 0, ("c",)))

    def test_undo_makes_room(self):
        reader = BoundReader("t", longest=4)
        reader.feed(1, 1)
        reader.feed(0, 1)
        self.check_too_many(4, reader.feed, 0)
        reader.undo()
        self.check_too_many(4, reader.feed, 0, 0, 0)
        self.assertEqual(reader.feed(1, 0), [0, 0])
        self.check_state(reader, ("t",), [1, 1, 1, 0])
        self.check_too_many(4, reader.feed, 0)

    def test_wrong_bits_come_first(self):
        for value in NO_BITS:
            for longest in [0, 1]:
                reader = BoundReader("c", longest=longest)
                self.check_error(InvalidBit, reader.feed, *[0] * 20, value)
                self.check_error(InvalidBit, reader.feed, value, *[0] * 20)
                self.check_state(reader, ("c",), [])

    def test_invalid_lengths(self):
        for value in ANY + [-1, 201, 10 ** 70, -10 ** 70]:
            self.check_error(InvalidLength, BoundReader, "c", longest=value)
            self.check_error(InvalidLength, BoundReader, longest=value)
            self.check_error(InvalidSteps, BoundReader, "x", longest=value)
            self.check_error(InvalidSteps, BoundReader, "c", True, longest=value)

    def test_under_reader(self):
        self.assertTrue(issubclass(BoundReader, Reader))
        self.assertIsInstance(BoundReader("c"), Reader)
        self.assertNotIsInstance(Reader("c"), BoundReader)

    def test_many_feeds(self):
        chance = random.Random(227)
        for steps in many_steps(227, 60, 10):
            longest = chance.randrange(12)
            reader = BoundReader(*steps, longest=longest)
            bits = []
            for _ in range(8):
                more = [chance.randrange(2) for _ in range(chance.randrange(5))]
                if len(bits) + len(more) > longest:
                    self.check_too_many(longest, reader.feed, *more)
                else:
                    self.assertEqual(len(reader.feed(*more)), len(more))
                    bits = bits + more
                self.check_state(reader, steps, bits)


if __name__ == "__main__":
    unittest.main()
