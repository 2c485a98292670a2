import itertools
import random
import re
import unittest

from lowtricks.errors import InvalidSteps, InvalidText
from lowtricks.texts import read_steps, show_steps
from plain_check import BIG, limit_steps, many_steps

WORD = r"[csft]|\+0|[+-][1-9][0-9]*"
TEXT = re.compile(f"none|({WORD})( ({WORD}))*", re.ASCII)


def plain_text(steps):
    words = [step if isinstance(step, str) else format(step, "+d") for step in steps]
    return " ".join(words) if words else "none"


def any_size(chance, many):
    """Steps with integers of any size."""
    row = []
    for _ in range(many):
        size = 2 ** chance.choice([1, 3, 60, 198, 200, 230, 1000, 3000])
        row.append(chance.choice(["c", "s", "f", "t", chance.randint(-size, size), chance.choice([size, -size]), 0]))
    return tuple(row)


class Examples(unittest.TestCase):
    def test_texts(self):
        found = [show_steps(('c', 5, 's', -3)), show_steps(()), read_steps('+0 f'), read_steps('none')]
        self.assertEqual(found, ['c +5 s -3', 'none', (0, 'f'), ()])


class Inverses(unittest.TestCase):
    def check_text(self, steps):
        text = plain_text(steps)
        self.assertEqual(show_steps(steps), text)
        self.assertEqual(read_steps(text), steps)
        self.assertIs(type(read_steps(text)), tuple)

    def test_single_steps(self):
        for step in ["c", "s", "f", "t", 0, 1, -1, 9, -9, 10, -10, 5, -3, 100, BIG, -BIG]:
            self.check_text((step,))
            self.check_text((step, step))

    def test_no_merging(self):
        self.assertEqual(show_steps((0, 0, 5, -5, "c", 0)), "+0 +0 +5 -5 c +0")
        self.assertEqual(read_steps("+0 +0 +5 -5 c +0"), (0, 0, 5, -5, "c", 0))

    def test_integers_around_the_powers_of_10(self):
        for power in list(range(0, 70)) + [119, 120, 121, 179, 180, 181, 240, 900, 998]:
            for near in [-1, 0, 1]:
                self.check_text((10 ** power + near, -10 ** power - near, 7 * 10 ** power + near, "s"))

    def test_many(self):
        chance = random.Random(200)
        for steps in many_steps(200, 300, 20) + limit_steps(200, 20):
            self.check_text(steps)
        for _ in range(200):
            self.check_text(any_size(chance, 20))

    def test_greater_than_python_converts_at_once(self):
        for digits in [4299, 4300, 4301, 5000, 9999]:
            for steps, text in [((10 ** digits,), "+1" + "0" * digits), ((-10 ** digits, "c"), "-1" + "0" * digits + " c"),
                                ((10 ** digits - 1,), "+" + "9" * digits), ((1 - 10 ** digits,), "-" + "9" * digits)]:
                # Shown in an error, such an integer would be an error of its own.
                self.assertTrue(show_steps(steps) == text, digits)
                self.assertTrue(read_steps(text) == steps, digits)

    def test_more_than_20_steps(self):
        for many in [20, 21, 100, 500]:
            self.assertEqual(read_steps(" ".join(["c"] * many)), ("c",) * many)
            self.assertEqual(show_steps(("c", 5) * many), " ".join(["c", "+5"] * many))


class WrongTexts(unittest.TestCase):
    def check_wrong(self, value):
        with self.assertRaises(ValueError, msg=repr(value)) as caught:
            read_steps(value)
        self.assertIs(type(caught.exception), InvalidText, repr(value))

    def test_listed_ones(self):
        for text in ["-0", "0", "5", "+05", "-05", "+00", "-00", "+-3", "-+3", "++3", "--3", "+", "-", "+ 5", "c  s",
                     " c", "c ", " ", "  ", "none c", "c none", "none none", "none ", " none", "None", "NONE", "",
                     "c\n", "\nc", "\n", "c\ns", "c\ts", "+5\n", "+5\nc", "none\n", "C", "cs", "x", "+1_0", "+0x1",
                     "+1e3", "+1.0", "5+", "+5c", "c+5", "c, s", "('c',)", "+5 +05", "c -0 s", "c s 0"]:
            self.check_wrong(text)

    def test_other_digits(self):
        for digit in ["\u0663", "\u00b2", "\u0967", "\uff15", "\u2460", "\u00bd"]:
            for text in ["+" + digit, "+1" + digit, "-" + digit + "1", digit, "c +" + digit + " s"]:
                self.check_wrong(text)
        for text in ["\u22125", "\uff0b5", "c\u00a0s", "c\u2003s", "\u0441", "\u200bc", "c\x00"]:
            self.check_wrong(text)

    def test_values_of_any_kind(self):
        for value in [None, True, False, 0, 5, -3, b"c", b"none", (), ("c",), ["c"], [], {}, {"c": 1}, ("c", 5),
                      [["none"]], ((("c",),),)]:
            kept = repr(value)
            self.check_wrong(value)
            self.assertEqual(repr(value), kept)

    def test_all_short_texts(self):
        found = 0
        for size in range(6):
            for signs in itertools.product("+-05 cn\n", repeat=size):
                text = "".join(signs)
                if TEXT.fullmatch(text):
                    found += 1
                    self.assertEqual(show_steps(read_steps(text)), text)
                else:
                    self.check_wrong(text)
        self.assertGreater(found, 50)

    def test_changed_texts(self):
        chance = random.Random(201)
        for steps in many_steps(201, 300):
            text = plain_text(steps)
            for _ in range(5):
                at = chance.randrange(len(text) + 1)
                other = text[:at] + chance.choice(["", " ", "0", "+", "-", "c", "\n", "1"]) + text[at + chance.randrange(2):]
                if TEXT.fullmatch(other):
                    self.assertEqual(plain_text(read_steps(other)), other)
                else:
                    self.check_wrong(other)


class WrongSteps(unittest.TestCase):
    def test_show_steps(self):
        for value in [None, True, 5, "c", "none", ["c"], ("c", True), ("x",), (None,), ((),), [], {}, (b"c",), ("cs",)]:
            with self.assertRaises(ValueError, msg=value) as caught:
                show_steps(value)
            self.assertIs(type(caught.exception), InvalidSteps)


if __name__ == "__main__":
    unittest.main()
