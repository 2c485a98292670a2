import random
import unittest

from lowtricks.alike import count_alike, parting_below, parting_number, same_function
from lowtricks.reading import read_word
from plain_check import BIG, limit_steps, many_numbers, many_steps, plain_applied, plain_merged, some_steps
from plain_sets import other_form, plain_parting, written_alike


class Examples(unittest.TestCase):
    def test_alike(self):
        found = [same_function((-1, 't'), ('c',)), parting_number(('c',), ('t',)), parting_below(('c',), ('t',)),
                 parting_number(('s', 'c'), ()), count_alike(('c',), ('t',), width=3)]
        self.assertEqual(found, [True, 2, -1, 1, 3])


def small_pairs(seed, times):
    """Many pairs of short lists, about half of them near each other."""
    chance = random.Random(seed)
    rows = many_steps(seed, 200, 6, True)
    for _ in range(times):
        one = chance.choice(rows)
        if chance.randrange(2):
            yield one, chance.choice(rows)
        else:
            at = chance.randrange(len(one) + 1)
            yield one, one[:at] + (chance.choice([1, -1, 2, "c", "s", "f", "t"]),) + one[at + chance.randrange(2):]


class AgainstAllIntegers(unittest.TestCase):
    def test_small_pairs(self):
        size = 2 ** 8
        for steps, other in small_pairs(100, 600):
            number = plain_parting(steps, other, range(size))
            below = plain_parting(steps, other, range(-1, -1 - size, -1))
            for one, two in [(steps, other), (other, steps)]:
                shown = (one, two)
                self.assertEqual(parting_number(one, two), number, shown)
                self.assertEqual(parting_below(one, two), below, shown)
                self.assertIs(same_function(one, two), number is None and below is None, shown)
            self.assertEqual(number is None, below is None, (steps, other))

    def test_written_bits(self):
        for steps, other in small_pairs(101, 150):
            self.assertIs(same_function(steps, other), written_alike(steps, other, range(2 ** 7), 12), (steps, other))

    def test_lists_of_two_steps(self):
        rows = [(one, two) for one in [-2, -1, 0, 1, 2, "c", "s", "f", "t"] for two in [-1, 1, "c", "s", "f", "t"]]
        results = [[plain_applied(row, number) for number in range(-32, 32)] for row in rows]
        for steps, here in zip(rows, results):
            for other, there in zip(rows, results):
                self.assertIs(same_function(steps, other), here == there, (steps, other))


class OtherForms(unittest.TestCase):
    def check_same(self, steps, other):
        for one, two in [(steps, other), (other, steps)]:
            self.assertIs(same_function(one, two), True, (one, two))
            self.assertIsNone(parting_number(one, two), (one, two))
            self.assertIsNone(parting_below(one, two), (one, two))

    def test_listed_ones(self):
        forms = [((-1, "t"), ("c",)), ((1, "f"), ("s",)), (("f", "f"), ("f",)), (("t", "t", "t"), ("t",)), ((), (0,)),
                 ((2, 3), (5,)), ((BIG, -BIG), ()), ((0, "c", 0), ("c",)), (("c", 3, -3, "s"), ("c", "s")),
                 ((1, "c"), ("t",)), ((-1, "s"), ("f",)), (("s", -1), ("f", "s", -1))]
        for steps, other in forms[:-1]:
            self.check_same(steps, other)
        self.assertIs(same_function(*forms[-1]), False)

    def test_many(self):
        chance = random.Random(102)
        for steps in many_steps(102, 150) + limit_steps(102, 15):
            other = other_form(chance, steps)
            self.check_same(steps, other)
            self.check_same(steps, steps)
            self.check_same(plain_merged(other), other_form(chance, steps))

    def test_same_is_equal_everywhere(self):
        chance = random.Random(103)
        for steps in limit_steps(103, 10):
            other = other_form(chance, steps)
            for width in [0, 1, 30, 200]:
                self.assertEqual(count_alike(steps, other, width=width), 2 ** width)


def nearly(chance, steps):
    """Steps that differ at one place."""
    at = chance.randrange(len(steps))
    if steps[at] in ("c", "s", "f", "t"):
        return steps[:at] + (chance.choice("csft"),) + steps[at + 1:]
    change = chance.choice([1, -1]) * 2 ** chance.randrange(100)
    return steps[:at] + (steps[at] + change,) + steps[at + 1:]


def trimmed(number):
    """Some numbers from 0 on that are less than a number, made of its bits."""
    rows = []
    for place in range(number.bit_length() + 1):
        rows.append(number % 2 ** place)
        if number // 2 ** place % 2:
            rows.append(number - 2 ** place)
    return [row for row in rows if row < number]


class LongLists(unittest.TestCase):
    def check_parting(self, steps, other):
        number, below = parting_number(steps, other), parting_below(steps, other)
        shown = (steps, other, number, below)
        self.assertEqual(parting_number(other, steps), number, shown)
        self.assertEqual(parting_below(other, steps), below, shown)
        self.assertIs(same_function(steps, other), number is None, shown)
        self.assertEqual(number is None, below is None, shown)
        if number is not None:
            self.assertGreaterEqual(number, 0)
            self.assertLess(below, 0)
            for one, less in [(number, trimmed(number)), (below, [-1 - near for near in trimmed(-1 - below)])]:
                self.assertNotEqual(plain_applied(steps, one), plain_applied(other, one), shown)
                self.assertIsNone(plain_parting(steps, other, less), shown)
        return number is None

    def test_limits(self):
        chance = random.Random(104)
        same = 0
        for steps in limit_steps(104, 40) + many_steps(104, 100, 20):
            if steps:
                other = nearly(chance, steps)
                if self.check_parting(steps, other):
                    same += 1
                    for number in many_numbers(105, 40):
                        self.assertEqual(plain_applied(steps, number), plain_applied(other, number), (steps, other))
        self.assertGreater(same, 3)

    def test_lists_by_chance(self):
        chance = random.Random(106)
        for _ in range(100):
            self.check_parting(some_steps(chance, 20), some_steps(chance, 20))

    def test_many_masks(self):
        self.assertEqual(parting_number(("c",) * 20, ("c",) * 19), 2 ** 20 - 1)
        self.assertEqual(parting_below(("s",) * 20, ("s",) * 19), -2 ** 20)
        self.assertEqual(count_alike(("c",) * 20, ("c",) * 19, width=20), 2 ** 20 - 1)


class FarUp(unittest.TestCase):
    def test_a_mask_between(self):
        for power in list(range(0, 99, 7)) + [98, 99]:
            great = 2 ** power
            expected = {"c": (0, -great), "f": (0, -great), "s": (great - 1, -1), "t": (great - 1, -1)}
            for mask, found in expected.items():
                one, two = (great, mask, -great), (mask,)
                self.assertEqual((parting_number(one, two), parting_below(one, two)), found, (power, mask))
                self.assertEqual((parting_number(two, one), parting_below(two, one)), found, (power, mask))
                self.assertIs(same_function(one, two), False)
                for number in found:
                    self.assertNotEqual(plain_applied(one, number), plain_applied(two, number))
                taken, back = (-great, mask, great), (great, mask, -great)
                self.assertIs(same_function(taken, back), False)
                self.assertIs(same_function(back, (great - 1, 1, mask, 0, -great)), True)

    def test_only_below_some_word(self):
        # The bits below the power are the same for both, whatever they are.
        for power in [1, 20, 99]:
            for mask in "csft":
                great = 2 ** power
                self.assertEqual(count_alike((great, mask, -great), (mask,), width=power - 1),
                                 2 ** (power - 1) - (1 if mask in "cf" else 0))

    def test_integers(self):
        for power in [0, 1, 50, 106]:
            for steps, other in [((2 ** power,), ()), ((-2 ** power,), (2 ** power,)), ((BIG,), (BIG + 2 ** power,))]:
                self.assertEqual((parting_number(steps, other), parting_below(steps, other)), (0, -1))
                self.assertEqual(count_alike(steps, other, width=200), 0)


class CountAlike(unittest.TestCase):
    def test_against_all_integers(self):
        for steps, other in small_pairs(107, 300):
            for width in [0, 1, 2, 5, 7]:
                expected = sum(plain_applied(steps, n) == plain_applied(other, n) for n in range(2 ** width))
                self.assertEqual(count_alike(steps, other, width=width), expected, (steps, other, width))
                self.assertEqual(count_alike(other, steps, width=width), expected, (steps, other, width))

    def test_width_0(self):
        self.assertEqual(count_alike((), ("c",), width=0), 1)
        self.assertEqual(count_alike((), ("s",), width=0), 0)
        # The bit in which the results differ lies far above the width.
        self.assertEqual(count_alike((2 ** 99, "c"), (2 ** 99,), width=0), 0)

    def test_width_200(self):
        self.assertEqual(count_alike((), (), width=200), 2 ** 200)
        self.assertEqual(count_alike(("c",), (), width=200), 1)
        self.assertEqual(count_alike(("t",), (), width=200), 2 ** 199)
        self.assertEqual(count_alike(("t", "f"), ("f",), width=200), 2 ** 199)

    def test_by_the_first_bits(self):
        """The integers with some low bits are alike if these are written alike and the rests do the same above."""
        chance = random.Random(108)
        for steps in limit_steps(108, 6) + [some_steps(chance, 6) for _ in range(15)]:
            for other in [nearly(chance, steps) if steps else (), some_steps(chance, 6)]:
                for width in [4, 40, 200]:
                    total = 0
                    for number in range(16):
                        word = "".join(str(number // 2 ** place % 2) for place in range(4))
                        (one, rest), (two, other_rest) = read_word(steps, word), read_word(other, word)
                        if one == two:
                            total += count_alike(rest, other_rest, width=width - 4)
                    self.assertEqual(count_alike(steps, other, width=width), total, (steps, other, width))


if __name__ == "__main__":
    unittest.main()
