import itertools
import unittest

from lowtricks.steps import applied, exchanged, is_step, is_steps, merged, plain, stepped
from plain_check import (
    BIG, TABLE, bit_of, limit_steps, many_numbers, many_steps, plain_applied, plain_merged, plain_step,
)


class Examples(unittest.TestCase):
    def test_stepped_and_applied(self):
        found = [stepped(44, 'c'), stepped(44, 's'), stepped(44, 'f'), stepped(47, 't'), stepped(44, -7),
                 applied(('c', 's'), 44)]
        self.assertEqual(found, [40, 45, 47, 32, 37, 41])

    def test_merged_plain_exchanged_is_steps(self):
        found = [merged((2, 0, 'c', 3, -3, 's')), plain(('c', 1, 's')), exchanged((5, 'c', 'f')),
                 is_steps(('c', True)), is_steps(())]
        self.assertEqual(found, [(2, 'c', 's'), (-1, 't', 2, 'f'), (-5, 's', 't'), False, True])

    def test_applied(self):
        found = [applied(('f', 1), 44), applied(('c',), 0), applied(('s',), -1),
                 applied((10 ** 30, 'f'), 2 ** 100 - 10 ** 30) == 2 ** 101 - 1]
        self.assertEqual(found, [48, 0, -1, True])


def deep(levels):
    value = ()
    for _ in range(levels):
        value = (value,)
    return value


class Kinds(unittest.TestCase):
    def test_steps_by_themselves(self):
        for value in ["c", "s", "f", "t", 0, 1, -1, BIG, -BIG, 10 ** 300]:
            self.assertIs(is_step(value), True, value)

    def test_no_steps_by_themselves(self):
        for value in [True, False, None, "", "C", "cs", "csft", "sf", "x", "1", " c", "c\n", b"c", b"", (), ("c",), [],
                      ["c"], [[]], {}, {"c": 1}, {1}, ("c", 1), object(), int, deep(20)]:
            self.assertIs(is_step(value), False, value)

    def test_tuples_of_steps(self):
        for value in [(), (0,), ("c",), (1, "c", -1), ("c",) * 20, (BIG,) * 20, ("c",) * 30, (10 ** 80, "t")]:
            self.assertIs(is_steps(value), True, value)

    def test_no_tuples_of_steps(self):
        for value in [True, None, 0, 5, "", "c", "csft", b"c", [], ["c"], [1, "c"], {}, {"c": 1}, (True,), (False,),
                      ("c", True), (1, None), ("",), ("cs",), ("c", "C"), ((),), (("c",),), ("c", ["s"]), (b"c",),
                      (1, (2,)), ({},), (1, 2, "%"), deep(19), object()]:
            self.assertIs(is_steps(value), False, value)


class SingleSteps(unittest.TestCase):
    def test_table_of_the_document(self):
        for x in list(range(-300, 300)) + many_numbers(1, 200):
            self.assertEqual(stepped(x, "c"), x & (x - 1))
            self.assertEqual(stepped(x, "s"), x | (x + 1))
            self.assertEqual(stepped(x, "f"), x | (x - 1))
            self.assertEqual(stepped(x, "t"), x & (x + 1))

    def test_bits_read_one_by_one(self):
        for x in list(range(-300, 300)) + many_numbers(2, 200):
            for step in ["c", "s", "f", "t", 0, 5, -7, BIG, -BIG]:
                self.assertEqual(stepped(x, step), plain_step(x, step), (x, step))

    def test_masks_that_never_end(self):
        self.assertEqual([stepped(0, "c"), stepped(0, "f"), stepped(-1, "s"), stepped(-1, "t")], [0, -1, -1, 0])

    def test_writes_up_to_the_end_and_reads_behind_it(self):
        for mask, (trigger, writes) in TABLE.items():
            for end in [0, 1, 5, 120]:
                for high in [0, -1, 6, -7]:
                    low = 2 ** end if trigger else 2 ** end - 1
                    number = high * 2 ** (end + 1) + low
                    result = stepped(number, mask)
                    self.assertEqual(result // 2 ** (end + 1), high)
                    self.assertEqual([bit_of(result, at) for at in range(end + 1)], [writes] * (end + 1))

    def test_no_error_somewhat_beyond_the_limits(self):
        number = 10 ** 100 + 1
        self.assertEqual(stepped(number, "c"), number - 1)
        self.assertEqual(stepped(number, 10 ** 40), number + 10 ** 40)
        self.assertEqual(applied((10 ** 40,) * 30, -number), 30 * 10 ** 40 - number)


class Lists(unittest.TestCase):
    def test_applied_one_after_the_other(self):
        for steps in many_steps(3, 250) + limit_steps(3, 10):
            for number in many_numbers(4, 12):
                self.assertEqual(applied(steps, number), plain_applied(steps, number), (steps, number))

    def test_the_first_step_comes_first(self):
        self.assertEqual(applied(("c", 1), 44), 41)
        self.assertEqual(applied((1, "c"), 44), 44)
        self.assertEqual(applied((), -5), -5)

    def test_merged(self):
        for steps in many_steps(5, 400) + limit_steps(5, 10):
            result = merged(steps)
            self.assertIs(type(result), tuple)
            self.assertEqual(result, plain_merged(steps), steps)
            self.assertEqual(merged(result), result)
            for number in many_numbers(6, 5):
                self.assertEqual(applied(result, number), applied(steps, number))

    def test_merged_edges(self):
        cases = [((), ()), ((0,), ()), ((0, 0, 0), ()), ((1, -1), ()), ((3, -3, 5), (5,)), ((5, 3, -3, -5), ()),
                 (("c", 0, "c"), ("c", "c")), ((1, 0, 2), (3,)), (("s", 4, -4, "s", 1), ("s", "s", 1)),
                 ((BIG,) * 20, (20 * BIG,)), ((0, "f", 0), ("f",))]
        for steps, expected in cases:
            self.assertEqual(merged(steps), expected)

    def test_plain(self):
        for steps in many_steps(7, 300) + limit_steps(7, 5):
            result = plain(steps)
            self.assertIs(type(result), tuple)
            spread = []
            for step in steps:
                spread += {"c": [-1, "t"], "s": [1, "f"]}.get(step, [step])
            self.assertEqual(result, plain_merged(spread), steps)
            for number in many_numbers(8, 5):
                self.assertEqual(applied(result, number), plain_applied(steps, number), (steps, number))

    def test_plain_edges(self):
        cases = [((), ()), (("c",), (-1, "t")), (("s",), (1, "f")), ((1, "c"), ("t",)), ((-1, "s"), ("f",)),
                 ((0, "f", 0), ("f",)), (("c", "c"), (-1, "t", -1, "t")), (("t", "f"), ("t", "f")),
                 (("c", 2, "s"), (-1, "t", 3, "f"))]
        for steps, expected in cases:
            self.assertEqual(plain(steps), expected)

    def test_exchanged(self):
        other = {"c": "s", "s": "c", "f": "t", "t": "f"}
        for steps in many_steps(9, 300) + limit_steps(9, 5):
            result = exchanged(steps)
            self.assertIs(type(result), tuple)
            self.assertEqual(result, tuple(other[step] if step in other else -step for step in steps))
            self.assertEqual(exchanged(result), steps)
            for number in many_numbers(10, 5):
                self.assertEqual(applied(result, -1 - number), -1 - applied(steps, number), (steps, number))

    def test_exchanged_is_not_merged(self):
        self.assertEqual(exchanged((1, 2, 0, -3, "s", "t")), (-1, -2, 0, 3, "c", "f"))
        self.assertEqual(exchanged(()), ())

    def test_same_steps_in_other_words(self):
        for number in many_numbers(11, 200):
            self.assertEqual(applied((-1, "t"), number), applied(("c",), number))
            self.assertEqual(applied((1, "f"), number), applied(("s",), number))

    def test_all_short_lists_on_all_small_numbers(self):
        single = [-2, -1, 0, 1, 2, "c", "s", "f", "t"]
        for steps in itertools.product(single, repeat=3):
            for number in range(-9, 9):
                self.assertEqual(applied(steps, number), plain_applied(steps, number))


if __name__ == "__main__":
    unittest.main()
