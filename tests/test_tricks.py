import random
import unittest

from lowtricks.errors import (InvalidFormat, InvalidIndex, InvalidNumber, InvalidSteps, InvalidText, InvalidTimes,
                              NotTricks, TooLong)
from lowtricks.steps import exchanged, merged, plain
from lowtricks.texts import show_steps
from lowtricks.tricks import Tricks
from plain_check import BIG, limit_steps, many_numbers, many_steps, plain_applied
from plain_sets import other_form

ANY = [None, True, False, "", "c", "1", b"c", (), (1,), ("c",), [], ["c"], [[1]], {}, {"c": 1}, ((("c",),),)]


class Checks(unittest.TestCase):
    def check_error(self, expected, function, *values):
        with self.assertRaises(ValueError, msg=values) as caught:
            function(*values)
        self.assertIs(type(caught.exception), expected, values)
        return caught.exception

    def check_too_long(self, function, *values):
        error = self.check_error(TooLong, function, *values)
        self.assertEqual(error.limit, 20)
        self.assertIs(type(error.limit), int)


class Examples(unittest.TestCase):
    def test_tricks(self):
        one, two = Tricks('c', 's'), Tricks.read('-1 t')
        found = [(one + two).steps, (one * 2)(44), (~one).steps, two == Tricks('c'), len(one), one[1], 's' in one,
                 one.shift, two.masks, one.shown('plain')]
        self.assertEqual(found, [('c', 's', -1, 't'), 41, ('s', 'c'), True, 2, 's', True, 0, 't', '-1 t +1 f'])


class Parts(Checks):
    def test_steps_masks_and_shift(self):
        for steps in many_steps(210, 200, 20) + limit_steps(210, 10):
            one = Tricks(*steps)
            self.assertEqual(one.steps, steps)
            self.assertIs(type(one.steps), tuple)
            self.assertEqual(one.masks, "".join(step for step in steps if isinstance(step, str)))
            self.assertEqual(one.shift, sum(step for step in steps if isinstance(step, int)))
            self.assertEqual(len(one), len(steps))
            self.assertEqual([one[at] for at in range(len(one))], list(steps))

    def test_without_steps(self):
        one = Tricks()
        self.assertEqual((one.steps, one.masks, one.shift, len(one), one(44)), ((), "", 0, 0, 44))
        self.assertEqual([one.shown(kind) for kind in ["", "merged", "plain"]], ["none"] * 3)
        self.assertEqual(((one + one).steps, (~one).steps), ((), ()))

    def test_not_merged(self):
        self.assertEqual(Tricks(0, 5, -5, "c").steps, (0, 5, -5, "c"))
        self.assertEqual(Tricks.read("+0 +5 -5 c").steps, (0, 5, -5, "c"))

    def test_never_changes(self):
        one = Tricks("c", 5)
        for name in ["steps", "masks", "shift"]:
            with self.assertRaises(AttributeError):
                setattr(one, name, ())
        with self.assertRaises(TypeError):
            one[0] = "s"
        with self.assertRaises(TypeError):
            del one[0]
        kept = one
        one += Tricks("s")
        self.assertEqual((one.steps, kept.steps), (("c", 5, "s"), ("c", 5)))
        one = kept
        one *= 2
        self.assertEqual((one.steps, kept.steps), (("c", 5, "c", 5), ("c", 5)))
        self.assertEqual(((~kept).steps, kept.steps), (("s", -5), ("c", 5)))

    def test_errors_of_steps(self):
        for value in ANY:
            if value != "c":
                self.check_error(InvalidSteps, Tricks, value)
                self.check_error(InvalidSteps, Tricks, "c", value, 5)
                # InvalidSteps comes ahead of TooLong.
                self.check_error(InvalidSteps, Tricks, *["c"] * 20, value)
                self.check_error(InvalidSteps, Tricks, value, *["c"] * 30)

    def test_too_long(self):
        self.assertEqual(Tricks(*["c"] * 20).steps, ("c",) * 20)
        self.assertEqual(Tricks(*[0] * 20).steps, (0,) * 20)
        for many in [21, 22, 40]:
            self.check_too_long(Tricks, *["c"] * many)
            self.check_too_long(Tricks, *[0] * many)


class Read(Checks):
    def test_many(self):
        for steps in many_steps(211, 100, 20) + limit_steps(211, 10):
            one = Tricks.read(show_steps(steps))
            self.assertIs(type(one), Tricks)
            self.assertEqual(one.steps, steps)
            self.assertEqual(one.shown(""), show_steps(steps))

    def test_integers_of_any_size(self):
        self.assertEqual(Tricks.read("+" + "9" * 900).steps, (10 ** 900 - 1,))

    def test_no_texts(self):
        for value in ["", " ", "-0", "5", "+05", "c  s", "c ", "none c", "c\n", None, True, 5, b"c", (), ("c",), ["c"], {}]:
            self.check_error(InvalidText, Tricks.read, value)

    def test_too_long(self):
        self.assertEqual(len(Tricks.read(" ".join(["+0"] * 20))), 20)
        self.check_too_long(Tricks.read, " ".join(["+0"] * 21))
        self.check_too_long(Tricks.read, " ".join(["c"] * 100))
        self.check_error(InvalidText, Tricks.read, " ".join(["c"] * 21 + ["x"]))


class Calling(Checks):
    def test_results(self):
        numbers = many_numbers(212, 30)
        for steps in many_steps(212, 150, 20) + limit_steps(212, 10):
            one = Tricks(*steps)
            for number in numbers:
                self.assertEqual(one(number), plain_applied(steps, number), (steps, number))

    def test_no_numbers(self):
        for value in ANY:
            self.check_error(InvalidNumber, Tricks("c"), value)
            self.check_error(InvalidNumber, Tricks(), value)


class Operators(Checks):
    def test_one_behind_the_other(self):
        chance = random.Random(213)
        rows = many_steps(213, 60, 10)
        numbers = many_numbers(213, 10)
        for steps in rows:
            other = chance.choice(rows)
            one, two = Tricks(*steps), Tricks(*other)
            both = one + two
            self.assertIs(type(both), Tricks)
            self.assertEqual(both.steps, steps + other)
            self.assertEqual((one.steps, two.steps), (steps, other))
            for number in numbers:
                self.assertEqual(both(number), two(one(number)))

    def test_too_long_behind_the_other(self):
        one = Tricks(*["c"] * 12)
        self.assertEqual((one + Tricks(*[1] * 8)).steps, ("c",) * 12 + (1,) * 8)
        self.check_too_long(lambda: one + Tricks(*[1] * 9))
        self.check_too_long(lambda: Tricks(*["c"] * 20) + Tricks(*["c"] * 20))
        self.assertEqual(len(Tricks(*["c"] * 20) + Tricks()), 20)

    def test_not_tricks(self):
        for value in ANY + [5, 0]:
            self.check_error(NotTricks, lambda: Tricks("c") + value)
            # Nothing else could be added to so many steps, but this comes first.
            self.check_error(NotTricks, lambda: Tricks(*["c"] * 20) + value)

    def test_times(self):
        for steps in many_steps(214, 60, 6):
            one = Tricks(*steps)
            for times in range(20 // max(len(steps), 5) + 1):
                many = one * times
                self.assertIs(type(many), Tricks)
                self.assertEqual(many.steps, steps * times)
                self.assertEqual(one.steps, steps)
                for number in [44, -1, 2 ** 100 - 1]:
                    expected = number
                    for _ in range(times):
                        expected = one(expected)
                    self.assertEqual(many(number), expected)

    def test_times_0(self):
        for steps in [(), ("c",), ("c",) * 20]:
            self.assertEqual((Tricks(*steps) * 0).steps, ())

    def test_too_long_times(self):
        for size, times in [(1, 20), (2, 10), (4, 5), (10, 2), (20, 1), (7, 2)]:
            self.assertEqual(len(Tricks(*["c"] * size) * times), size * times)
        for size, times in [(1, 21), (2, 11), (7, 3), (11, 2), (20, 2), (1, 10 ** 70), (20, 10 ** 70)]:
            self.check_too_long(lambda: Tricks(*["c"] * size) * times)

    def test_no_steps_many_times(self):
        for times in [0, 1, 21, 10 ** 6, 2 ** 63, 10 ** 30, 10 ** 70]:
            self.assertEqual((Tricks() * times).steps, ())

    def test_invalid_times(self):
        for value in ANY + [-1, -10 ** 70, Tricks("c")]:
            for steps in [(), ("c",), ("c",) * 20]:
                self.check_error(InvalidTimes, lambda: Tricks(*steps) * value)

    def test_exchanged(self):
        for steps in many_steps(215, 100, 20) + limit_steps(215, 10):
            one = Tricks(*steps)
            other = ~one
            self.assertIs(type(other), Tricks)
            self.assertEqual(other.steps, exchanged(steps))
            self.assertEqual((~other).steps, steps)
            self.assertEqual(one.steps, steps)
            for number in [0, 44, -2 ** 60]:
                self.assertEqual(other(-1 - number), -1 - one(number))


class Equality(Checks):
    def check_equal(self, one, two, expected):
        for here, there in [(one, two), (two, one)]:
            self.assertIs(here == there, expected)
            self.assertIs(here != there, not expected)

    def test_other_steps_that_do_the_same(self):
        for steps, other in [(("c",), (-1, "t")), (("s",), (1, "f")), ((), (0,)), ((5,), (2, 3)), (("f",), ("f", "f")),
                             (("t",), (1, "c")), ((BIG, -BIG), ())]:
            self.check_equal(Tricks(*steps), Tricks(*other), True)
            self.check_equal(~Tricks(*steps), ~Tricks(*other), True)

    def test_many_other_forms(self):
        chance = random.Random(216)
        for steps in many_steps(216, 150, 5) + limit_steps(216, 10):
            other = other_form(chance, steps)
            if len(other) <= 20:
                self.check_equal(Tricks(*steps), Tricks(*other), True)
            self.check_equal(Tricks(*steps), Tricks(*steps), True)

    def test_different_ones(self):
        # Great powers are only told apart by great numbers.
        for steps, other in [(("c",), ("t",)), ((), (1,)), (("c", "s"), ("s", "c")), (("c",) * 20, ("c",) * 19),
                             ((2 ** 99, "s", -2 ** 99), ("s",)), ((BIG,), (BIG + 2 ** 106,))]:
            self.check_equal(Tricks(*steps), Tricks(*other), False)

    def test_against_all_integers(self):
        rows = many_steps(217, 40, 3, True)
        results = [[plain_applied(row, number) for number in range(-128, 128)] for row in rows]
        for steps, here in zip(rows, results):
            for other, there in zip(rows, results):
                self.check_equal(Tricks(*steps), Tricks(*other), here == there)

    def test_other_values(self):
        for steps in [(), ("c",), (5,)]:
            for value in ANY + [5, steps, list(steps), show_steps(steps)]:
                self.check_equal(Tricks(*steps), value, False)


class AsARow(Checks):
    def test_indexes(self):
        one = Tricks("c", 5, "s")
        self.assertEqual([one[0], one[1], one[2]], ["c", 5, "s"])
        for value in ANY + [-1, -3, 3, 4, 10 ** 70, -10 ** 70, slice(0, 1), slice(None)]:
            self.check_error(InvalidIndex, lambda: one[value])
        for value in [0, -1, 1]:
            self.check_error(InvalidIndex, lambda: Tricks()[value])

    def test_contained(self):
        one = Tricks("c", 1, 0, -5)
        for value in ["c", 1, 0, -5]:
            self.assertIs(value in one, True)
        for value in [True, False, None, "", "s", "C", "cc", "1", b"c", 5, 2, (), ("c",), ["c"], [], {}, {"c": 1}, one]:
            self.assertIs(value in one, False, value)
            self.assertIs(value not in one, True, value)
        for value in [1, 0, True, False, "c", None]:
            self.assertIs(value in Tricks(), False)
        self.assertIs(1 in Tricks(2, -1), False)

    def test_not_iterated_over(self):
        for one in [Tricks(), Tricks("c", 5)]:
            for function in [iter, list, tuple, sorted, set, enumerate]:
                with self.assertRaises(TypeError):
                    function(one)
            with self.assertRaises(TypeError):
                for _ in one:
                    pass
            with self.assertRaises(TypeError):
                Tricks(*one)


class Shown(Checks):
    def test_kinds(self):
        one = Tricks(2, 0, "c", 3, -3, "s", 1, 4)
        self.assertEqual(one.shown(""), "+2 +0 c +3 -3 s +1 +4")
        self.assertEqual(one.shown("merged"), "+2 c s +5")
        self.assertEqual(one.shown("plain"), "+1 t +1 f +5")

    def test_many(self):
        for steps in many_steps(218, 150, 20) + limit_steps(218, 10):
            one = Tricks(*steps)
            self.assertEqual(one.shown(""), show_steps(steps))
            self.assertEqual(one.shown("merged"), show_steps(merged(steps)))
            self.assertEqual(one.shown("plain"), show_steps(plain(steps)))
            self.assertEqual(one.steps, steps)

    def test_more_than_20_steps_in_plain_ones(self):
        self.assertEqual(Tricks(*["c"] * 20).shown("plain"), " ".join(["-1 t"] * 20))

    def test_no_kinds(self):
        for value in ANY + [0, 5, " ", "Merged", "merged ", "PLAIN", "none", "steps", "plain\n", b"", b"plain", ["plain"]]:
            if value != "":
                self.check_error(InvalidFormat, Tricks("c").shown, value)


if __name__ == "__main__":
    unittest.main()
