import inspect
import random
import unittest

from lowtricks.errors import InvalidIndex, InvalidNumber, InvalidSteps, InvalidTimes, InvalidWidth, NotFixed
from lowtricks.fixed import count_fixed, fixed_index, nth_fixed, repeated, walk_fixed, works_once
from lowtricks.reading import read_word
from plain_check import BIG, limit_steps, many_numbers, many_steps, plain_applied, plain_step, some_steps
from plain_sets import fixed_numbers, great_steps, other_form, written_alike


class Examples(unittest.TestCase):
    def test_fixed(self):
        steps = ('s', -1)
        found = [list(walk_fixed(steps, width=3)), count_fixed(steps, width=100) == 2 ** 99,
                 nth_fixed(steps, 10 ** 20, width=100), fixed_index(steps, 6, width=3), works_once(steps),
                 repeated(('f', 1), 3, 10)]
        self.assertEqual(found, [[0, 2, 4, 6], True, 200000000000000000000, 3, True, 2048])


def with_back(chance, steps):
    """Steps that leave many integers as they are: there and nearly the same way back."""
    back = tuple(-step if isinstance(step, int) else chance.choice("csft") for step in reversed(steps))
    return steps + back


def kinds_of_steps(seed, times):
    chance = random.Random(seed)
    rows = many_steps(seed, times, 5, True)
    return rows + [with_back(chance, some_steps(chance, 3, True)) for _ in range(times)]


class SmallWidths(unittest.TestCase):
    def check_width(self, steps, width):
        fixed = fixed_numbers(steps, width)
        shown = (steps, width)
        self.assertEqual(count_fixed(steps, width=width), len(fixed), shown)
        self.assertEqual(list(walk_fixed(steps, width=width)), fixed, shown)
        for index, number in enumerate(fixed):
            self.assertEqual(nth_fixed(steps, index, width=width), number, shown)
        for index in [len(fixed), len(fixed) + 1, 10 ** 60]:
            with self.assertRaises(InvalidIndex, msg=shown):
                nth_fixed(steps, index, width=width)
        for number in range(-3, 2 ** width + 3):
            if number in fixed:
                self.assertEqual(fixed_index(steps, number, width=width), fixed.index(number), shown)
            else:
                with self.assertRaises(NotFixed, msg=shown):
                    fixed_index(steps, number, width=width)

    def test_all_integers(self):
        for steps in kinds_of_steps(120, 80):
            for width in [0, 1, 2, 5]:
                self.check_width(steps, width)

    def test_great_integers(self):
        chance = random.Random(121)
        for steps in limit_steps(121, 6) + [with_back(chance, great_steps(chance, 6)) for _ in range(20)]:
            for width in [0, 6]:
                self.check_width(steps, width)

    def test_width_0(self):
        self.assertEqual([count_fixed(steps, width=0) for steps in [(), ("c",), ("s",), (1,)]], [1, 1, 0, 0])
        self.assertEqual([list(walk_fixed(steps, width=0)) for steps in [(), ("c",), ("s",)]], [[0], [0], []])
        self.assertEqual(nth_fixed((), 0, width=0), 0)
        self.assertEqual(fixed_index((), 0, width=0), 0)
        # 0 is changed, but only far above this width.
        self.assertEqual(count_fixed((2 ** 99, "s", -1), width=0), 0)


class GreatWidths(unittest.TestCase):
    def test_known_ones(self):
        self.assertEqual(count_fixed((), width=200), 2 ** 200)
        self.assertEqual(count_fixed((5, -2, -3), width=200), 2 ** 200)
        self.assertEqual([count_fixed((mask,), width=200) for mask in "csft"], [1, 0, 2 ** 199, 2 ** 199])
        self.assertEqual(count_fixed((2 ** 99, "t", -2 ** 99), width=200), 2 ** 199)
        self.assertEqual(nth_fixed((), 2 ** 200 - 1, width=200), 2 ** 200 - 1)
        self.assertEqual(nth_fixed(("f",), 2 ** 199 - 1, width=200), 2 ** 200 - 1)
        self.assertEqual(nth_fixed(("t",), 10 ** 50, width=200), 2 * 10 ** 50)
        self.assertEqual(fixed_index(("t",), 2 * 10 ** 50, width=200), 10 ** 50)
        self.assertEqual(fixed_index((), 2 ** 200 - 1, width=200), 2 ** 200 - 1)
        with self.assertRaises(InvalidIndex):
            nth_fixed((), 2 ** 200, width=200)
        for number in [2 ** 200, -1, -2 ** 200]:
            with self.assertRaises(NotFixed):
                fixed_index((), number, width=200)

    def check_inverse(self, steps, width):
        many = count_fixed(steps, width=width)
        indexes = sorted({index for index in [0, 1, 2, many // 3, many // 2, many - 2, many - 1] if 0 <= index < many})
        numbers = [nth_fixed(steps, index, width=width) for index in indexes]
        self.assertEqual(numbers, sorted(set(numbers)))
        for index, number in zip(indexes, numbers):
            self.assertTrue(0 <= number < 2 ** width)
            self.assertEqual(plain_applied(steps, number), number, (steps, index))
            self.assertEqual(fixed_index(steps, number, width=width), index, (steps, index))
        with self.assertRaises(InvalidIndex):
            nth_fixed(steps, many, width=width)
        first = []
        for number in walk_fixed(steps, width=width):
            first.append(number)
            if len(first) == 3:
                break
        self.assertEqual(first, [nth_fixed(steps, index, width=width) for index in range(min(3, many))])
        return many

    def test_inverse(self):
        chance = random.Random(122)
        some = 0
        for steps in kinds_of_steps(122, 20) + limit_steps(122, 5):
            some += self.check_inverse(steps, 60) > 9
        for _ in range(40):
            some += self.check_inverse(with_back(chance, great_steps(chance, 3)), 200) > 9
            some += self.check_inverse(with_back(chance, great_steps(chance, 10)), 60) > 9
        self.assertGreater(some, 30)

    def test_by_the_first_bits(self):
        chance = random.Random(123)
        for _ in range(30):
            steps = with_back(chance, great_steps(chance, 4))
            total = 0
            for number in range(16):
                word = "".join(str(number // 2 ** place % 2) for place in range(4))
                written, rest = read_word(steps, word)
                if written == word:
                    total += count_fixed(rest, width=146)
            self.assertEqual(count_fixed(steps, width=150), total, steps)


class Walk(unittest.TestCase):
    wide = (2 ** 99, "t", -2 ** 99)

    def test_a_generator(self):
        self.assertTrue(inspect.isgeneratorfunction(walk_fixed))
        walk = walk_fixed(("t",), width=3)
        self.assertEqual([next(walk), next(walk)], [0, 2])
        self.assertEqual(list(walk), [4, 6])
        self.assertIsNone(next(walk, None))

    def test_in_order(self):
        for steps in kinds_of_steps(124, 40):
            numbers = list(walk_fixed(steps, width=8))
            self.assertEqual(numbers, fixed_numbers(steps, 8), steps)

    def test_first_items_of_very_many(self):
        for steps in [self.wide, (BIG, -BIG), (BIG, "t", "f", -1, -BIG)]:
            walk = walk_fixed(steps, width=200)
            first = [next(walk) for _ in range(20)]
            self.assertEqual(first, [nth_fixed(steps, index, width=200) for index in range(20)])
            self.assertEqual([plain_applied(steps, number) for number in first], first)

    def test_left_early(self):
        for number in walk_fixed(self.wide, width=200):
            self.assertEqual(number, 0)
            break
        walk = walk_fixed(self.wide, width=200)
        next(walk)
        walk.close()
        self.assertEqual(next(walk_fixed(self.wide, width=200)), 0)

    def test_two_at_the_same_time(self):
        one, two, three = walk_fixed(("t",), width=6), walk_fixed(("f",), width=5), walk_fixed(("t",), width=6)
        rows = ([], [], [])
        for turn in range(80):
            for walk, row in zip((one, two, three), rows):
                if turn % 2 or row is not rows[2]:
                    number = next(walk, None)
                    if number is not None:
                        row.append(number)
        self.assertEqual(rows[0], fixed_numbers(("t",), 6))
        self.assertEqual(rows[1], fixed_numbers(("f",), 5))
        self.assertEqual(rows[2], rows[0])

    def test_errors_with_the_first_item(self):
        for steps, width, error in [(["c"], 300, InvalidSteps), (("c",), 201, InvalidWidth),
                                    (("c",), True, InvalidWidth)]:
            walk = walk_fixed(steps, width=width)
            with self.assertRaises(error):
                next(walk)


class WorksOnce(unittest.TestCase):
    def test_known_ones(self):
        once = [(), (0,), ("f",), ("t",), (5, -5), ("s", -1), (BIG, "t", -BIG), ("f", -1, "f"), ("f",) * 20,
                (BIG, "t", "t", -BIG) * 5, (2 ** 99, "f", -2 ** 99)]
        for steps in once:
            self.assertIs(works_once(steps), True, steps)
        for steps in [(1,), (-1,), ("c",), ("s",), ("f", 1), ("c", "c"), (BIG,), ("c",) * 20, ("s",) * 20,
                      (2 ** 99, "c", -2 ** 99), (1, -1, BIG), ("f", "t"), ("t", "f") * 10]:
            self.assertIs(works_once(steps), False, steps)

    def test_small_steps(self):
        seen = {True: 0, False: 0}
        for steps in kinds_of_steps(125, 120):
            changes = [number for number in range(-300, 301)
                       if plain_applied(steps + steps, number) != plain_applied(steps, number)]
            expected = not changes and written_alike(steps + steps, steps, range(32), 10)
            self.assertIs(works_once(steps), expected, steps)
            seen[expected] += 1
        self.assertGreater(min(seen.values()), 30)

    def test_twenty_steps(self):
        chance = random.Random(126)
        seen = {True: 0, False: 0}
        for steps in limit_steps(126, 60) + [with_back(chance, great_steps(chance, 10)) for _ in range(60)]:
            found = works_once(steps)
            seen[found] += 1
            numbers = many_numbers(126, 60)
            changes = [number for number in numbers
                       if plain_applied(steps + steps, number) != plain_applied(steps, number)]
            if found:
                self.assertEqual(changes, [], steps)
            self.assertIs(works_once(other_form(chance, steps)), found)
        self.assertGreater(min(seen.values()), 3)


class Repeated(unittest.TestCase):
    def test_many(self):
        for steps in many_steps(127, 60) + limit_steps(127, 4):
            for number in many_numbers(127, 3):
                result = number
                for times in range(13):
                    self.assertEqual(repeated(steps, number, times), result, (steps, number, times))
                    result = plain_applied(steps, result)

    def test_0_and_300_times(self):
        self.assertEqual([repeated(("c", 5), number, 0) for number in [0, -7, 10 ** 70]], [0, -7, 10 ** 70])
        self.assertEqual([repeated((), number, 300) for number in [0, -7, 10 ** 70]], [0, -7, 10 ** 70])
        self.assertEqual(repeated((1,), 5, 300), 305)
        self.assertEqual(repeated(("s",), 0, 300), 2 ** 300 - 1)
        self.assertEqual(repeated(("f", 1), 1, 300), 2 ** 300)
        self.assertEqual(repeated(("c",), 2 ** 300 - 1, 299), 2 ** 299)
        self.assertEqual(repeated(("c",), 2 ** 301 - 1, 300), 2 ** 300)
        for steps in limit_steps(128, 4):
            result = 44
            for _ in range(300):
                for step in steps:
                    result = plain_step(result, step)
            self.assertEqual(repeated(steps, 44, 300), result)

    def test_times(self):
        for times in [-1, 301, 10 ** 30, True, False, None, "3", (3,)]:
            with self.assertRaises(InvalidTimes):
                repeated(("c",), 5, times)
            with self.assertRaises(InvalidNumber):
                repeated(("c",), "5", times)


class Errors(unittest.TestCase):
    def test_index_and_width(self):
        for index in [-1, True, None, "0"]:
            for width in [-1, 201, None, 4]:
                with self.assertRaises(InvalidIndex):
                    nth_fixed(("t",), index, width=width)
        for index in [0, 8, 10 ** 30]:
            for width in [-1, 201, None, True]:
                with self.assertRaises(InvalidWidth):
                    nth_fixed(("t",), index, width=width)
        self.assertEqual(nth_fixed(("t",), 7, width=4), 14)
        for index in [8, 9, 10 ** 30]:
            with self.assertRaises(InvalidIndex):
                nth_fixed(("t",), index, width=4)
        with self.assertRaises(InvalidIndex):
            nth_fixed(("s",), 0, width=4)

    def test_not_fixed_behind_the_others(self):
        for number in [-2, 5, 16, 2 ** 200]:
            with self.assertRaises(NotFixed):
                fixed_index(("t",), number, width=4)
            for width in [-1, 201, None, True]:
                with self.assertRaises(InvalidWidth):
                    fixed_index(("t",), number, width=width)
        for number in [True, False, None, "4"]:
            for width in [-1, 4]:
                with self.assertRaises(InvalidNumber):
                    fixed_index(("t",), number, width=width)


if __name__ == "__main__":
    unittest.main()
