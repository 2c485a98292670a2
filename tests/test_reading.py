import random
import unittest

from lowtricks.errors import InvalidWord
from lowtricks.reading import end_places, ends_of, least_ending, listener_at, read_word
from lowtricks.steps import applied, merged
from plain_check import (
    BIG, PlainRun, ending_by_inverse, limit_steps, many_numbers, many_steps, masks_of, plain_applied, plain_end,
    plain_endings,
)


class Examples(unittest.TestCase):
    def test_words_ends_and_listeners(self):
        steps = ('c', 's')
        found = [read_word(steps, '0'), read_word(steps, '001'), ends_of(steps, 44), ends_of(steps, 0),
                 [listener_at(steps, 44, place) for place in [0, 1, 3]]]
        self.assertEqual(found, [('1', ('c',)), ('100', ()), [2, 0], [None, 0], [0, 0, None]])

    def test_endings(self):
        steps = ('c', 's')
        found = [end_places(steps, 0, width=4), end_places(steps, 1, width=4), least_ending(steps, 0, 3),
                 least_ending(steps, 1, 1)]
        self.assertEqual(found, [[0, 1, 2, 3], [0], 8, None])

    def test_eleventh_point(self):
        steps = ("c", 5, "f", "s")
        self.assertEqual(read_word(steps, ""), ("", steps))
        self.assertEqual(read_word(steps, "0"), ("1", ("c", 2, "s")))
        self.assertEqual(read_word(steps, "00"), ("11", ("c", 1)))
        self.assertEqual(read_word(steps, "000"), ("111", ("c",)))
        self.assertEqual(read_word(steps, "0000"), ("1110", ("c",)))
        self.assertEqual(ends_of(steps, 0), [None, 0, 1])


class Words(unittest.TestCase):
    def test_bits_read_one_by_one(self):
        chance = random.Random(20)
        for steps in many_steps(21, 300) + limit_steps(21, 10):
            for size in [0, 1, 2, 3, 7, 30, 120, 200]:
                word = "".join(chance.choice("01") for _ in range(size))
                run = PlainRun(steps)
                for sign in word:
                    run.feed(int(sign))
                self.assertEqual(read_word(steps, word), (run.word(), run.rest()), (steps, word))

    def test_words_of_one_bit_only(self):
        for steps in many_steps(22, 100):
            for word in ["0" * 200, "1" * 200, "0" * 199 + "1", "1" * 199 + "0"]:
                run = PlainRun(steps)
                for sign in word:
                    run.feed(int(sign))
                self.assertEqual(read_word(steps, word), (run.word(), run.rest()), (steps, word))

    def test_empty_word_and_no_steps(self):
        self.assertEqual(read_word((), ""), ("", ()))
        self.assertEqual(read_word((), "0110"), ("0110", ()))
        self.assertEqual(read_word((0, 3, -3, 0), ""), ("", ()))
        self.assertEqual(read_word((1, 2, "c", 0, "s"), ""), ("", (3, "c", "s")))

    def test_the_rest_is_merged(self):
        self.assertEqual(read_word((2, "c", 3), "1"), ("1", (2,)))
        self.assertEqual(read_word((-2, "c", 3), "1"), ("1", ()))
        self.assertEqual(read_word((3, -3, "f"), "0"), ("1", ("f",)))

    def test_result_from_the_written_bits_and_the_rest(self):
        chance = random.Random(23)
        for steps in many_steps(24, 200) + limit_steps(24, 10):
            for y in [0, -1, 1, chance.randint(-9, 9), chance.randrange(-2 ** 100, 2 ** 100)]:
                many = chance.choice([0, 1, 2, 5, 40, 130])
                z = chance.randrange(2 ** many)
                word = "".join(str(z // 2 ** at % 2) for at in range(many))
                written, rest = read_word(steps, word)
                w = sum(int(sign) * 2 ** at for at, sign in enumerate(written))
                self.assertEqual(len(written), many)
                x = y * 2 ** many + z
                self.assertEqual(plain_applied(rest, y) * 2 ** many + w, plain_applied(steps, x), (steps, x, many))

    def test_kinds_of_values(self):
        result = read_word((1, "c"), "01")
        self.assertIs(type(result), tuple)
        self.assertEqual([type(value) for value in result], [str, tuple])

    def test_longest_word(self):
        self.assertEqual(read_word((), "01" * 100), ("01" * 100, ()))
        for word in ["0" * 201, "01" * 200]:
            with self.assertRaises(InvalidWord):
                read_word((), word)


class Ends(unittest.TestCase):
    def test_ends_from_what_each_mask_reads(self):
        for steps in many_steps(30, 200) + limit_steps(30, 10):
            for number in many_numbers(31, 10):
                expected = [plain_end(plain_applied(steps[:index], number), steps[index]) for index in masks_of(steps)]
                self.assertEqual(ends_of(steps, number), expected, (steps, number))

    def test_ends_from_bits_read_one_by_one(self):
        for steps in many_steps(32, 100):
            for number in many_numbers(33, 4):
                run = PlainRun(steps)
                run.feed_number(number, 400)
                expected = [run.ends.get(index) for index in masks_of(steps)]
                self.assertEqual(ends_of(steps, number), expected, (steps, number))

    def test_masks_that_never_end(self):
        self.assertEqual(ends_of(("c",), 0), [None])
        self.assertEqual(ends_of(("f",), 0), [None])
        self.assertEqual(ends_of(("s",), -1), [None])
        self.assertEqual(ends_of(("t",), -1), [None])
        self.assertEqual(ends_of(("t", "c", "f"), -1), [None, None, None])
        self.assertEqual(ends_of(("f", "t", "s"), 0), [None, None, 0])
        self.assertEqual(ends_of((1, "c", -1, "s"), -1), [None, None])

    def test_no_masks(self):
        self.assertEqual(ends_of((), 5), [])
        self.assertEqual(ends_of((1, 0, -1), -5), [])

    def test_far_ends(self):
        self.assertEqual(ends_of(("c", "s"), 2 ** 230), [230, 0])
        self.assertEqual(ends_of((-1, "t"), 2 ** 230), [230])
        self.assertEqual(ends_of((1, "f"), -2 ** 230 - 1), [230])

    def test_new_list_each_time(self):
        ends_of(("c",), 4).append("more")
        self.assertEqual(ends_of(("c",), 4), [2])


class Listeners(unittest.TestCase):
    def test_listeners_from_bits_read_one_by_one(self):
        for steps in many_steps(40, 120):
            for number in many_numbers(41, 3)[-6:]:
                run = PlainRun(steps)
                for place in range(140):
                    self.assertEqual(listener_at(steps, number, place), run.listener(), (steps, number, place))
                    run.feed(number // 2 ** place % 2)

    def test_it_may_end_there(self):
        self.assertEqual([listener_at(("c", "f"), 8, place) for place in [2, 3, 4]], [0, 0, 1])

    def test_index_counts_integers_too(self):
        self.assertEqual(listener_at((1, 0, "c", 5, "s"), 1, 0), 2)
        self.assertEqual(listener_at((1, 0, "c", 5, "s"), 1, 1), 2)
        self.assertIsNone(listener_at((1, 0, "c", 5, "s"), 1, 2))

    def test_a_later_mask_may_end_first(self):
        steps = ("c", "s")
        self.assertEqual([listener_at(steps, 8, place) for place in [0, 1, 3, 4]], [0, 0, 0, None])
        steps = ("s", "t")
        self.assertEqual([listener_at(steps, 0, place) for place in [0, 1, 2]], [0, 1, None])

    def test_far_beyond_all_ends(self):
        for place in [10 ** 3, 10 ** 30, 10 ** 70]:
            self.assertIsNone(listener_at(("c", "s"), 44, place))
            self.assertEqual(listener_at((3, "c", "s"), -3, place), 1)
            self.assertEqual(listener_at(("f", "c", "f", "s"), 0, place), 0)
            self.assertEqual(listener_at(("s", "s"), -1, place), 0)
            self.assertIsNone(listener_at(("c", 5, "s", -6, "t"), 4, place))
            self.assertEqual(listener_at(("f", 7, "c", -1, "t"), 1, place), 4)
            self.assertIsNone(listener_at((), 44, place))
            self.assertIsNone(listener_at((5,), 44, place))


class Endings(unittest.TestCase):
    def test_all_numbers_of_small_widths(self):
        for steps in many_steps(50, 150, most=6, small=True) + many_steps(51, 60, most=7):
            for index in masks_of(steps):
                width = 8
                found = plain_endings(steps, index, width)
                self.assertEqual(end_places(steps, index, width=width), sorted(found), (steps, index))
                for place in range(width):
                    self.assertEqual(least_ending(steps, index, place), found.get(place), (steps, index, place))

    def test_widths_below(self):
        for steps in many_steps(52, 60, most=6, small=True):
            for index in masks_of(steps):
                places = end_places(steps, index, width=30)
                for width in [0, 1, 2, 13, 29]:
                    self.assertEqual(end_places(steps, index, width=width), [at for at in places if at < width])

    def test_masks_that_cannot_end_everywhere(self):
        self.assertEqual(end_places(("f", "f"), 1, width=200), [0])
        self.assertEqual(end_places(("c", "t"), 1, width=200), [0])
        self.assertEqual(end_places(("f", "t"), 1, width=5), [1, 2, 3, 4])
        self.assertEqual(end_places(("c", 8, "f"), 2, width=200), list(range(1, 200)))
        self.assertEqual(end_places(("f", 1, "s"), 2, width=200), [0])
        self.assertEqual(end_places(("f", "c", "c"), 2, width=6), [1, 2, 3, 4, 5])
        self.assertEqual(end_places(("t", "s", "s"), 2, width=6), [1, 2, 3, 4, 5])
        self.assertEqual(end_places(("t", "s", "c"), 2, width=200), [0])

    def test_single_masks_at_the_limits(self):
        for place in [0, 1, 106, 199, 200]:
            self.assertEqual(least_ending(("c",), 0, place), 2 ** place)
            self.assertEqual(least_ending(("f",), 0, place), 2 ** place)
            self.assertEqual(least_ending(("s",), 0, place), 2 ** place - 1)
            self.assertEqual(least_ending(("t",), 0, place), 2 ** place - 1)
            for added in [1, -1, 5, BIG, -BIG]:
                self.assertEqual(least_ending((added, "c"), 1, place), (2 ** place - added) % 2 ** (place + 1))
                self.assertEqual(least_ending((added, "t"), 1, place), (2 ** place - 1 - added) % 2 ** (place + 1))
        for mask in "csft":
            self.assertEqual(end_places((BIG, mask), 1, width=200), list(range(200)))

    def test_against_numbers_found_backwards(self):
        for steps in many_steps(53, 60, most=7):
            for index in masks_of(steps):
                for place in [0, 1, 5, 33]:
                    expected = ending_by_inverse(steps, index, place)
                    self.assertEqual(least_ending(steps, index, place), expected, (steps, index, place))
        chance = random.Random(54)
        for _ in range(12):
            steps = (chance.randint(-BIG, BIG), chance.choice("csft"), chance.randint(-BIG, BIG),
                     chance.choice("csft"), chance.randint(-BIG, BIG), chance.choice("csft"))
            for index in [1, 3, 5]:
                for place in [108, 200]:
                    expected = ending_by_inverse(steps, index, place)
                    self.assertEqual(least_ending(steps, index, place), expected, (steps, index, place))

    def test_at_the_limits(self):
        for steps in limit_steps(55, 12):
            for index in masks_of(steps)[-3:]:
                places = end_places(steps, index, width=200)
                self.assertEqual(places, sorted(set(places)))
                self.assertTrue(all(0 <= place < 200 for place in places))
                spot = masks_of(steps).index(index)
                for number in many_numbers(56, 20):
                    end = ends_of(steps, number)[spot]
                    self.assertTrue(end is None or end >= 200 or end in places, (steps, index, number))
                for place in [0, 1, 60, 107, 150, 199]:
                    least = least_ending(steps, index, place)
                    self.assertEqual(least is not None, place in places, (steps, index, place))
                    if least is not None:
                        self.assertTrue(0 <= least < 2 ** (place + 1))
                        self.assertEqual(ends_of(steps, least)[spot], place)

    def test_at_the_limits_against_numbers_found_backwards(self):
        for steps in limit_steps(57, 6):
            for index in masks_of(steps)[:3]:
                for place in [4, 140]:
                    expected = ending_by_inverse(steps, index, place)
                    self.assertEqual(least_ending(steps, index, place), expected, (steps, index, place))

    def test_last_width_and_place(self):
        self.assertEqual(end_places(("c",), 0, width=0), [])
        self.assertEqual(end_places(("c",), 0, width=200)[-1], 199)
        self.assertEqual(least_ending(("c",), 0, 200), 2 ** 200)

    def test_new_list_each_time(self):
        end_places(("c",), 0, width=3).append("more")
        self.assertEqual(end_places(("c",), 0, width=3), [0, 1, 2])


class Relations(unittest.TestCase):
    def test_merged_steps_write_the_same(self):
        for steps in many_steps(60, 100):
            for word in ["", "0110", "111111", "0000001"]:
                self.assertEqual(read_word(steps, word), read_word(merged(steps), word))

    def test_more_steps_and_integers_than_the_limits(self):
        steps = (10 ** 40, "c") * 15
        number = 10 ** 90
        self.assertEqual(applied(steps, number), plain_applied(steps, number))
        self.assertEqual(len(ends_of(steps, number)), 15)
        self.assertEqual(least_ending(steps, 1, 5), (32 - 10 ** 40) % 64)


if __name__ == "__main__":
    unittest.main()
