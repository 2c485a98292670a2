import inspect
import random
import unittest

from lowtricks.errors import InvalidLength, InvalidSteps
from lowtricks.search import count_functions, count_lists, shortest, walk_lists
from plain_check import BIG, limit_steps, many_numbers, many_steps, plain_applied
from plain_sets import all_lists, other_form

NUMBERS = list(range(-66, 67)) + many_numbers(130, 20)
LISTS = [all_lists(length) for length in range(5)]


def results_of(steps):
    return tuple(plain_applied(steps, number) for number in NUMBERS)


# Tuples of so few single steps that differ at all do so for some of these numbers.
RESULTS = [[results_of(row) for row in rows] for rows in LISTS]


def lists_like(steps, length):
    """All tuples of so many single steps that do the same, by trying each of them."""
    results = results_of(steps)
    return [row for row, found in zip(LISTS[length], RESULTS[length]) if found == results]


def first_like(steps, longest):
    for length in range(longest + 1):
        for row in lists_like(steps, length):
            return row
    return None


class Examples(unittest.TestCase):
    def test_search(self):
        found = [shortest((-1, 't')), shortest((3,)), shortest((5,)), count_lists(('c',), 2),
                 list(walk_lists(('c',), 2)), [count_functions(length) for length in [0, 1]]]
        self.assertEqual(found, [('c',), (1, 1, 1), None, 2, [(-1, 't'), ('c', 't')], [1, 6]])


class Shortest(unittest.TestCase):
    def check_steps(self, steps):
        for longest in range(5):
            self.assertEqual(shortest(steps, longest=longest), first_like(steps, longest), (steps, longest))
        self.assertEqual(shortest(steps), first_like(steps, 4), steps)

    def test_single_steps(self):
        for steps in all_lists(0) + all_lists(1) + all_lists(2) + all_lists(3)[::5] + all_lists(4)[::29]:
            self.check_steps(steps)

    def test_small_steps(self):
        for steps in many_steps(131, 80, 4, True):
            self.check_steps(steps)

    def test_other_forms(self):
        chance = random.Random(132)
        for _ in range(60):
            steps = chance.choice(LISTS[chance.randrange(5)])
            other = other_form(chance, steps)
            self.assertEqual(shortest(other), first_like(steps, 4), other)

    def test_twenty_steps(self):
        self.assertEqual(shortest(("f",) * 20), ("f",))
        self.assertEqual(shortest((1, -1) * 10), ())
        self.assertEqual(shortest((BIG, -BIG) * 9 + ("c", "f")), ("c", "f"))
        self.assertEqual(shortest((BIG - 2, 0, -BIG) + ("t",) * 17), (-1, "c"))
        self.assertIsNone(shortest(("c",) * 20))
        for steps in limit_steps(132, 30):
            self.assertEqual(shortest(steps), first_like(steps, 4), steps)

    def test_longest_just_too_short(self):
        for many in range(1, 5):
            self.assertEqual(shortest((many,)), (1,) * many)
            self.assertEqual(shortest((-many,), longest=many), (-1,) * many)
            self.assertIsNone(shortest((many,), longest=many - 1))
            self.assertEqual(shortest(("c",) * many, longest=many), ("c",) * many)
            self.assertIsNone(shortest(("s",) * many, longest=many - 1))
        self.assertEqual(shortest((), longest=0), ())
        self.assertIsNone(shortest((5,)))
        self.assertIsNone(shortest(("c",) * 5))

    def test_alike_up_to_far(self):
        # These do the same as one mask for most numbers: s and t for all from 0 to 2 ** 99 - 2.
        for mask in "csft":
            for power in [10, 60, 99]:
                steps = (2 ** power, mask, -2 ** power)
                self.assertIsNone(shortest(steps))
                self.assertEqual([count_lists(steps, length) for length in range(4)], [0, 0, 0, 0])
        self.assertEqual(shortest(("c", 2 ** 99, "t", -2 ** 99)), ("c",))


class Lists(unittest.TestCase):
    def check_lists(self, steps, lengths=range(4)):
        for length in lengths:
            expected = lists_like(steps, length)
            self.assertEqual(list(walk_lists(steps, length)), expected, (steps, length))
            self.assertEqual(count_lists(steps, length), len(expected), (steps, length))

    def test_single_steps(self):
        for steps in all_lists(0) + all_lists(1) + all_lists(2) + all_lists(3)[::7]:
            self.check_lists(steps)

    def test_other_steps(self):
        chance = random.Random(133)
        for steps in many_steps(133, 40, 4, True) + limit_steps(133, 5):
            self.check_lists(steps)
        for _ in range(30):
            steps = chance.choice(LISTS[3])
            self.check_lists(other_form(chance, steps), [2, 3])

    def test_length_0(self):
        self.assertEqual(list(walk_lists((), 0)), [()])
        self.assertEqual(list(walk_lists((BIG, -BIG), 0)), [()])
        self.assertEqual(list(walk_lists(("c",), 0)), [])
        self.assertEqual([count_lists((), 0), count_lists((1,), 0)], [1, 0])

    def test_each_list_is_one_of_its_own(self):
        for length in range(3):
            for steps in LISTS[length]:
                found = list(walk_lists(steps, length))
                self.assertIn(steps, found)
                self.assertEqual(found, [row for row in LISTS[length] if row in found])


class Generators(unittest.TestCase):
    def test_a_generator(self):
        self.assertTrue(inspect.isgeneratorfunction(walk_lists))
        walk = walk_lists((), 2)
        self.assertEqual([next(walk), next(walk)], [(-1, 1), (1, -1)])
        self.assertIsNone(next(walk, None))

    def test_left_early_and_two_at_the_same_time(self):
        for row in walk_lists(("f",), 3):
            self.assertEqual(row, lists_like(("f",), 3)[0])
            break
        one, two = walk_lists(("f",), 3), walk_lists(("t",), 3)
        rows = ([], [])
        for _ in range(216):
            for walk, found in zip((one, two), rows):
                row = next(walk, None)
                if row is not None:
                    found.append(row)
        self.assertEqual(rows, (lists_like(("f",), 3), lists_like(("t",), 3)))

    def test_errors_with_the_first_item(self):
        for steps, length, error in [(["c"], 9, InvalidSteps), (("c",), 4, InvalidLength), (("c",), -1, InvalidLength),
                                     (("c",), True, InvalidLength)]:
            walk = walk_lists(steps, length)
            with self.assertRaises(error):
                next(walk)


class Functions(unittest.TestCase):
    def test_counts(self):
        for length in range(4):
            self.assertEqual(count_functions(length), len(set(RESULTS[length])))
        self.assertEqual([count_functions(length) for length in range(4)], [1, 6, 27, 96])

    def test_lengths(self):
        for length in [-1, 4, 10 ** 30, True, False, None, "1", (1,)]:
            with self.assertRaises(InvalidLength):
                count_functions(length)
            with self.assertRaises(InvalidLength):
                count_lists((), length)
        for longest in [-1, 5, 10 ** 30, True, False, None, "1", (1,)]:
            with self.assertRaises(InvalidLength):
                shortest((), longest=longest)


if __name__ == "__main__":
    unittest.main()
