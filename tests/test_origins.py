import random
import unittest

from lowtricks.origins import count_origins, is_value, nth_origin, origin_index
from lowtricks.errors import InvalidIndex, InvalidNumber, InvalidWidth
from lowtricks.reading import read_word
from plain_check import BIG, limit_steps, many_numbers, many_steps, plain_applied, some_steps
from plain_sets import exact_origins, great_steps, reached


class Examples(unittest.TestCase):
    def test_origins(self):
        steps = ('c',)
        found = [is_value(steps, 8), is_value(steps, 9), count_origins(steps, 8, width=4),
                 nth_origin(steps, 8, 1, width=4), origin_index(steps, 12, width=4), count_origins(steps, 0, width=200)]
        self.assertEqual(found, [True, False, 3, 10, 2, 201])


class SmallWidths(unittest.TestCase):
    def check_width(self, steps, width):
        found = reached(steps, width)
        for value in list(found) + [-2 ** 9, -3, -1, 0, 1, 7, 2 ** 8, 2 ** 106]:
            origins = found.get(value, [])
            shown = (steps, value, width)
            self.assertEqual(count_origins(steps, value, width=width), len(origins), shown)
            for index, number in enumerate(origins):
                self.assertEqual(nth_origin(steps, value, index, width=width), number, shown)
                self.assertEqual(origin_index(steps, number, width=width), index, shown)
            for index in [len(origins), len(origins) + 1, 10 ** 60]:
                with self.assertRaises(InvalidIndex, msg=shown):
                    nth_origin(steps, value, index, width=width)

    def test_all_integers(self):
        for steps in many_steps(110, 60, 6, True):
            for width in [0, 1, 2, 4, 6]:
                self.check_width(steps, width)

    def test_great_integers(self):
        for steps in many_steps(111, 40) + limit_steps(111, 8):
            self.check_width(steps, 5)

    def test_width_0(self):
        self.assertEqual(count_origins((), 0, width=0), 1)
        self.assertEqual(count_origins((), 1, width=0), 0)
        self.assertEqual(count_origins(("s",), 1, width=0), 1)
        self.assertEqual(count_origins(("c", BIG), BIG, width=0), 1)
        self.assertEqual(nth_origin(("f",), -1, 0, width=0), 0)
        self.assertEqual(origin_index(("f",), 0, width=0), 0)
        for number in [1, -1]:
            with self.assertRaises(InvalidNumber):
                origin_index(("f",), number, width=0)
        with self.assertRaises(InvalidIndex):
            nth_origin(("f",), -1, 1, width=0)


class Width200(unittest.TestCase):
    def test_known_ones(self):
        self.assertEqual(count_origins((), 2 ** 200 - 1, width=200), 1)
        self.assertEqual(count_origins((), 2 ** 200, width=200), 0)
        self.assertEqual(count_origins(("c", "c"), 0, width=200), 1 + 200 + 200 * 199 // 2)
        self.assertEqual(count_origins(("t",), 0, width=200), 201)
        self.assertEqual(count_origins(("s",), 2 ** 200 - 1, width=200), 200)
        self.assertEqual(count_origins(("f",), -1, width=200), 1)
        self.assertEqual(count_origins(("c",), -1, width=200), 0)
        self.assertEqual([nth_origin(("c",), 0, index, width=200) for index in [0, 1, 200]], [0, 1, 2 ** 199])
        self.assertEqual([origin_index(("c",), number, width=200) for number in [0, 1, 2 ** 199]], [0, 1, 200])
        self.assertEqual(origin_index((), 2 ** 200 - 1, width=200), 0)
        with self.assertRaises(InvalidNumber):
            origin_index((), 2 ** 200, width=200)
        with self.assertRaises(InvalidIndex):
            nth_origin(("c",), 0, 201, width=200)

    def check_origins(self, steps, value, width):
        """Whether the origins are the ones found by the inverse of each step."""
        origins = exact_origins(steps, value, width + 115)
        if origins is None:
            return 0
        origins = sorted(number for number in origins if 0 <= number < 2 ** width)
        shown = (steps, value, width)
        self.assertEqual(count_origins(steps, value, width=width), len(origins), shown)
        for index in {0, 1, len(origins) // 2, len(origins) - 1} & set(range(len(origins))):
            self.assertEqual(nth_origin(steps, value, index, width=width), origins[index], shown)
            self.assertEqual(origin_index(steps, origins[index], width=width), index, shown)
        with self.assertRaises(InvalidIndex, msg=shown):
            nth_origin(steps, value, len(origins), width=width)
        return len(origins)

    def test_six_steps(self):
        chance = random.Random(112)
        most = 0
        for _ in range(60):
            steps = great_steps(chance, 6)
            for number in [0, chance.randrange(2 ** 200), chance.randrange(2 ** 100) * 2 ** 100]:
                value = plain_applied(steps, number)
                for width in [200, 110, 3]:
                    most = max(most, self.check_origins(steps, value, width))
                self.check_origins(steps, value + chance.choice([-1, 1]), 200)
        self.assertGreater(most, 100)

    def test_twenty_steps(self):
        chance = random.Random(113)
        some = 0
        for steps in limit_steps(113, 25):
            for width in [60, 200]:
                number = chance.randrange(2 ** width)
                some += 1 if self.check_origins(steps, plain_applied(steps, number), width) else 0
        self.assertGreater(some, 10)

    def check_inverse(self, steps, value, width):
        """Whether index and number lead to each other, ascending, also where there are very many."""
        many = count_origins(steps, value, width=width)
        places = sorted({index for index in [0, 1, 2, many // 3, many // 2, many - 2, many - 1] if 0 <= index < many})
        numbers = [nth_origin(steps, value, index, width=width) for index in places]
        self.assertEqual(numbers, sorted(set(numbers)))
        for index, number in zip(places, numbers):
            self.assertTrue(0 <= number < 2 ** width)
            self.assertEqual(plain_applied(steps, number), value, (steps, value, index))
            self.assertEqual(origin_index(steps, number, width=width), index, (steps, value, index))
        with self.assertRaises(InvalidIndex):
            nth_origin(steps, value, many, width=width)

    def test_very_many(self):
        for steps, value in [(("c",) * 20, 0), (("c", "t") * 10, 0), (("c", 2 ** 90, "c", -2 ** 90, "f") * 4, -1),
                             (("t", "c") * 5 + ("s", "f") * 5, 1), (("c", "c", "c", BIG, "t"), BIG)]:
            for width in [0, 1, 60, 200]:
                self.check_inverse(steps, value, width)
        self.assertGreater(count_origins(("c",) * 20, 0, width=200), 10 ** 25)

    def test_by_chance(self):
        chance = random.Random(114)
        for steps in limit_steps(114, 10) + [great_steps(chance, 6) for _ in range(10)]:
            for number in [0, 1, chance.randrange(2 ** 60), chance.randrange(2 ** 200)]:
                value = plain_applied(steps, number)
                self.check_inverse(steps, value, 200)
                self.check_inverse(steps, value, 60)
                index = origin_index(steps, number, width=200)
                self.assertEqual(nth_origin(steps, value, index, width=200), number)

    def test_by_the_first_bits(self):
        chance = random.Random(115)
        for steps in limit_steps(115, 6) + [some_steps(chance, 6) for _ in range(15)]:
            for value in [plain_applied(steps, 0), plain_applied(steps, chance.randrange(2 ** 150)), 0, -1]:
                total = 0
                for number in range(16):
                    written, rest = read_word(steps, "".join(str(number // 2 ** place % 2) for place in range(4)))
                    if written == "".join(str(value // 2 ** place % 2) for place in range(4)):
                        total += count_origins(rest, value // 16, width=146)
                self.assertEqual(count_origins(steps, value, width=150), total, (steps, value))


class IsValue(unittest.TestCase):
    def test_small_values(self):
        """Each value by trying integers, and those that none of them is led to by the inverse of each step."""
        never = 0
        for steps in many_steps(116, 150, 6, True):
            results = {plain_applied(steps, number) for number in range(-100, 101)}
            for value in range(-40, 41):
                expected = value in results or bool(exact_origins(steps, value, 40, 10 ** 5))
                self.assertIs(is_value(steps, value), expected, (steps, value))
                never += not expected
        self.assertGreater(never, 1000)

    def test_results(self):
        numbers = many_numbers(117, 12) + [-10 ** 70 + 1, -2 ** 231]
        for steps in many_steps(117, 80) + limit_steps(117, 12):
            for number in numbers:
                self.assertIs(is_value(steps, plain_applied(steps, number)), True, (steps, number))

    def test_great_values_by_inverse(self):
        chance = random.Random(118)
        seen = {True: 0, False: 0}
        for _ in range(150):
            steps = great_steps(chance, 6)
            value = plain_applied(steps, chance.randrange(-2 ** 150, 2 ** 150)) + chance.choice([0, 1, -1, 2])
            origins = exact_origins(steps, value, 400)
            if origins is not None:
                self.assertIs(is_value(steps, value), bool(origins), (steps, value))
                seen[bool(origins)] += 1
        self.assertGreater(min(seen.values()), 10)

    def test_origins_of_one_kind_only(self):
        # c leads only integers below 0 to such ones, and -1 has no origin at all.
        self.assertEqual([is_value(("c",), value) for value in [-1, -2, -3, -4, 0, 1]], [False, True, False, True, True,
                                                                                        False])
        self.assertEqual([is_value(("s",), value) for value in [-1, 0, 1, 2]], [True, False, True, False])
        self.assertEqual([is_value(("f",), value) for value in [-1, 0, 1, 2, -2]], [True, False, True, False, False])
        self.assertEqual([is_value(("t",), value) for value in [-1, 0, 1, 2]], [False, True, False, True])
        # Only 0 is led to -1 by f, and only -1 to 0 by s and t, with these integers around.
        self.assertIs(is_value(("f", 1), 0), True)
        self.assertIs(is_value((1, "f", 1), 0), True)
        self.assertIs(is_value(("s", 1), 0), True)
        self.assertEqual([is_value((), value) for value in [0, -1, 10 ** 70, -10 ** 70]], [True] * 4)
        self.assertIs(is_value(("t", 2 ** 99), 2 ** 99 + 1), False)
        self.assertIs(is_value(("c", -2 ** 99), -2 ** 99), True)

    def test_results_passed_back(self):
        number = 10 ** 70
        for _ in range(40):
            number = plain_applied((BIG, "f", BIG, "s") * 5, number) * 2 + 1
        self.assertIs(is_value(("f",), plain_applied(("f",), number)), True)
        self.assertIs(is_value(("f",), plain_applied(("t",), number)), False)


class Errors(unittest.TestCase):
    def test_index_and_width(self):
        for index in [-1, True, None, "0", (0,)]:
            for width in [-1, 201, None, 4]:
                with self.assertRaises(InvalidIndex):
                    nth_origin(("c",), 8, index, width=width)
        for index in [0, 3, 10 ** 30]:
            for width in [-1, 201, None, True]:
                with self.assertRaises(InvalidWidth):
                    nth_origin(("c",), 8, index, width=width)
        for index in [3, 4, 10 ** 30]:
            with self.assertRaises(InvalidIndex):
                nth_origin(("c",), 8, index, width=4)
        with self.assertRaises(InvalidIndex):
            nth_origin(("c",), 9, 0, width=4)

    def test_number_and_width(self):
        for number in [-1, 16, 10 ** 70, -10 ** 70]:
            with self.assertRaises(InvalidNumber):
                origin_index(("c",), number, width=4)
            for width in [-1, 201, None, False]:
                with self.assertRaises(InvalidWidth):
                    origin_index(("c",), number, width=width)
        for number in [True, None, "1", (1,)]:
            for width in [-1, 4]:
                with self.assertRaises(InvalidNumber):
                    origin_index(("c",), number, width=width)
        self.assertEqual([origin_index(("c",), number, width=4) for number in [0, 15]], [0, 0])


if __name__ == "__main__":
    unittest.main()
