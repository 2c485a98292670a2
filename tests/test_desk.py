import random
import unittest

from lowtricks.alike import parting_number, same_function
from lowtricks.desk import Desk
from lowtricks.errors import InvalidCommand, NoSteps, NothingToUndo
from lowtricks.fixed import count_fixed
from lowtricks.origins import count_origins
from lowtricks.readers import Reader
from lowtricks.reading import ends_of, read_word
from lowtricks.search import shortest
from lowtricks.texts import show_steps
from plain_check import limit_steps, many_numbers, many_steps, plain_applied
from plain_sets import other_form

ANY = [None, True, False, 0, 5, b"undo", (), ("undo",), [], ["undo"], [["rest"]], {}, {"rest": 1}, ((("c",),),)]

# One command of each kind but `undo`, all of which are possible with any steps.
COMMANDS = ["other c", "run 44", "ends 44", "read 001", "rest", "same", "part", "origins 41 6", "fixed 5", "short"]

WRONG = [
    "", " ", "  ", "none", "c", "nothing", "steps", "steps ", "steps  c", " steps c", "steps c ", "steps c  s",
    "steps 5", "steps -0", "steps +05", "steps none c", "steps c none", "steps x", "steps\nc", "steps c\n", "steps C",
    "Steps c", "STEPS c", "stepsc", "steps +\u0663", "other", "other ", "other  c", "other c ", "other 5", "other -0",
    "other none none", "OTHER c", "run", "run ", "run  5", "run 5 ", " run 5", "run 5 6", "run +5", "run -0", "run 05",
    "run -05", "run 00", "run --5", "run -", "run c", "run 5\n", "run 1_0", "run 0x1", "run 1e3", "run 5.0", "run None",
    "run \u0665", "run \u00b2", "Run 5", "RUN 5", "ends", "ends +5", "ends -0", "ends 05", "ends 5 5", "Ends 5",
    "read", "read ", "read 2", "read 0 1", "read  0", "read 0 ", "read 01\n", "read -1", "read none", "read 0x1",
    "read \u0661", "READ 0", "undo ", " undo", "undo 1", "Undo", "UNDO", "undo\n", "undo none", "rest ", " rest",
    "rest c", "Rest", "same ", "same c", "Same", "part ", "part c", "Part", "origins", "origins 5", "origins 5 ",
    "origins  5 6", "origins 5  6", "origins 5 6 7", "origins 5 06", "origins 5 +6", "origins 5 -0", "origins 5 -1",
    "origins 5 201", "origins 5 1000", "origins 05 6", "origins +5 6", "origins -0 6", "origins c 6", "origins 6 c",
    "Origins 5 6", "fixed", "fixed ", "fixed -1", "fixed -0", "fixed 00", "fixed 05", "fixed +5", "fixed 201",
    "fixed 5 5", "fixed c", "fixed \u0665", "Fixed 5", "short ", "short 4", "Short", "short none",
]


def long_ones():
    """Commands beyond a bound, each beside one that is at the bound."""
    nines = "9" * 61
    return [
        ("run " + nines, "run " + nines + "9"), ("run -" + nines, "run -" + nines + "9"),
        ("ends 1" + "0" * 60, "ends 1" + "0" * 61), ("ends -" + nines, "ends -" + nines + "0"),
        ("origins " + nines + " 0", "origins 1" + nines + " 0"), ("origins -" + nines + " 5", "origins -1" + nines + " 5"),
        ("origins 41 200", "origins 41 201"), ("fixed 200", "fixed 201"), ("fixed 0", "fixed -1"),
        ("read " + "0" * 200, "read " + "0" * 201), ("read 1", "read "),
        ("other " + " ".join(["c"] * 20), "other " + " ".join(["c"] * 21)),
        ("other " + " ".join(["+0"] * 20), "other " + " ".join(["+0"] * 21)),
        ("steps " + " ".join(["c"] * 20), "steps " + " ".join(["c"] * 21)),
        ("steps " + " ".join(["-7"] * 20), "steps " + " ".join(["-7"] * 21)),
    ]


class Checks(unittest.TestCase):
    def check_error(self, expected, function, *values):
        with self.assertRaises(ValueError, msg=values) as caught:
            function(*values)
        self.assertIs(type(caught.exception), expected, values)

    def check_answers(self, desk, steps, other, number, width):
        """All commands that only ask, against the functions of the other modules."""
        ends = ["-" if end is None else str(end) for end in ends_of(steps, number)]
        part, short = parting_number(steps, other), shortest(steps)
        expected = {
            f"run {number}": str(plain_applied(steps, number)),
            f"ends {number}": " ".join(ends) if ends else "none",
            "same": "yes" if same_function(steps, other) else "no",
            "part": "none" if part is None else str(part),
            f"origins {number} {width}": str(count_origins(steps, number, width=width)),
            f"fixed {width}": str(count_fixed(steps, width=width)),
            "short": "-" if short is None else show_steps(short),
        }
        for command, result in expected.items():
            self.assertEqual(desk.execute(command), result, (steps, other, command))


class Examples(unittest.TestCase):
    def test_desk(self):
        desk = Desk()
        commands = ['steps c s', 'other c +1', 'run 44', 'ends 44', 'read 001', 'rest', 'undo', 'rest', 'same', 'part',
                    'origins 41 6', 'fixed 5', 'short']
        found = [desk.execute(command) for command in commands]
        self.assertEqual(found, ['ok', 'ok', '41', '2 0', '100', 'none', 'ok', 'c s', 'yes', 'none', '3', '16', 'c +1'])


class Answers(Checks):
    def test_by_hand(self):
        desk = Desk()
        rows = [("steps none", "ok"), ("run -7", "-7"), ("ends 5", "none"), ("rest", "none"), ("same", "yes"),
                ("part", "none"), ("origins 7 3", "1"), ("origins 8 3", "0"), ("fixed 200", str(2 ** 200)),
                ("short", "none"), ("other +1", "ok"), ("same", "no"), ("part", "0"), ("steps c", "ok"),
                ("ends 0", "-"), ("ends -8", "3"), ("run 0", "0"), ("run -8", "-16"), ("origins 0 200", "201"),
                ("fixed 0", "1"), ("short", "c"), ("steps +5", "ok"), ("short", "-"), ("rest", "+5"),
                ("steps c s f", "ok"), ("ends 0", "- 0 0"), ("steps +0 -3 +3", "ok"), ("rest", "none"),
                ("run -5", "-5"), ("part", "none"), ("steps t c", "ok"), ("read 0", "0"), ("rest", "c"),
                ("read 1", "0"), ("rest", "none"), ("read 01", "01")]
        for command, result in rows:
            self.assertEqual(desk.execute(command), result, command)

    def test_against_the_other_modules(self):
        chance = random.Random(230)
        rows = many_steps(230, 80, 12) + limit_steps(230, 8)
        for steps in rows:
            others = [chance.choice(rows), steps, other_form(chance, steps)[:20]]
            desk = Desk()
            self.assertEqual(desk.execute("steps " + show_steps(steps)), "ok")
            other = ()
            for number in chance.sample(many_numbers(230, 30), 3):
                if -10 ** 61 < number < 10 ** 61:
                    self.check_answers(desk, steps, other, number, chance.choice([0, 1, 5, 60, 200]))
                other = others.pop()
                self.assertEqual(desk.execute("other " + show_steps(other)), "ok")

    def test_integers_of_any_size(self):
        desk = Desk()
        for text in ["+" + "9" * 200, "-1" + "0" * 900, " ".join(["-" + "7" * 40] * 20)]:
            self.assertEqual(desk.execute("steps " + text), "ok")
            self.assertEqual(desk.execute("other " + text), "ok")
            self.assertEqual(desk.execute("same"), "yes")


class OtherSteps(Checks):
    def test_none_at_first(self):
        desk = Desk()
        desk.execute("steps c")
        self.assertEqual((desk.execute("same"), desk.execute("part")), ("no", "1"))
        desk.execute("steps +3 -3")
        self.assertEqual((desk.execute("same"), desk.execute("part")), ("yes", "none"))

    def test_none_behind_new_steps(self):
        desk = Desk()
        desk.execute("steps c")
        desk.execute("other -1 t")
        self.assertEqual(desk.execute("same"), "yes")
        desk.execute("steps c")
        self.assertEqual(desk.execute("same"), "no")
        desk.execute("other -1 t")
        desk.execute("steps none")
        self.assertEqual(desk.execute("same"), "yes")

    def test_the_last_ones_count(self):
        desk = Desk()
        desk.execute("steps f")
        for text, result in [("c", "no"), ("f f", "yes"), ("none", "no"), ("-1 s", "yes")]:
            self.assertEqual(desk.execute("other " + text), "ok")
            self.assertEqual(desk.execute("same"), result)

    def test_the_reader_stays(self):
        desk = Desk()
        desk.execute("steps c s")
        desk.execute("read 0")
        desk.execute("other f")
        self.assertEqual(desk.execute("rest"), "c")
        self.assertEqual(desk.execute("undo"), "ok")
        self.assertEqual(desk.execute("same"), "no")
        self.check_error(NothingToUndo, desk.execute, "undo")


class Reading(Checks):
    def test_many(self):
        chance = random.Random(231)
        for steps in many_steps(231, 80, 12) + limit_steps(231, 5):
            desk, reader = Desk(), Reader(*steps)
            desk.execute("steps " + show_steps(steps))
            words = []
            for _ in range(12):
                if chance.randrange(3) == 0:
                    if words:
                        words.pop()
                        reader.undo()
                        self.assertEqual(desk.execute("undo"), "ok")
                    else:
                        self.check_error(NothingToUndo, desk.execute, "undo")
                else:
                    words.append("".join(chance.choice("01") for _ in range(chance.choice([1, 1, 2, 13, 200]))))
                    written = reader.feed(*[int(sign) for sign in words[-1]])
                    self.assertEqual(desk.execute("read " + words[-1]), "".join(str(bit) for bit in written))
                self.assertEqual(desk.execute("rest"), show_steps(reader.rest))
            # The number that was read makes no difference to what is asked about the steps.
            self.check_answers(desk, steps, (), 44, 6)

    def test_as_words(self):
        for steps in many_steps(232, 40, 12):
            for word in ["0", "1", "0110", "1" * 200]:
                desk = Desk()
                desk.execute("steps " + show_steps(steps))
                written, rest = read_word(steps, word)
                self.assertEqual((desk.execute("read " + word), desk.execute("rest")), (written, show_steps(rest)))

    def test_undo_reverts_whole_reads(self):
        desk = Desk()
        desk.execute("steps c s t")
        rests = [desk.execute("rest")]
        for word in ["00", "0", "110"]:
            desk.execute("read " + word)
            rests.append(desk.execute("rest"))
        while len(rests) > 1:
            self.assertEqual(desk.execute("rest"), rests.pop())
            self.assertEqual(desk.execute("undo"), "ok")
        self.assertEqual(desk.execute("rest"), rests.pop())
        self.check_error(NothingToUndo, desk.execute, "undo")

    def test_new_steps_begin_anew(self):
        desk = Desk()
        desk.execute("steps c s")
        desk.execute("read 001")
        desk.execute("steps c s")
        self.assertEqual(desk.execute("rest"), "c s")
        self.check_error(NothingToUndo, desk.execute, "undo")
        self.assertEqual(desk.execute("read 1"), "1")
        desk.execute("steps none")
        self.assertEqual(desk.execute("rest"), "none")
        self.check_error(NothingToUndo, desk.execute, "undo")


class Errors(Checks):
    def test_no_commands(self):
        empty, desk = Desk(), Desk()
        desk.execute("steps c s")
        for command in ANY + WRONG:
            self.check_error(InvalidCommand, empty.execute, command)
            self.check_error(InvalidCommand, desk.execute, command)
        self.check_error(NoSteps, empty.execute, "rest")

    def test_bounds(self):
        for command, wrong in long_ones():
            empty, desk = Desk(), Desk()
            desk.execute("steps c s")
            self.check_error(InvalidCommand, empty.execute, wrong)
            self.check_error(InvalidCommand, desk.execute, wrong)
            self.assertIs(type(desk.execute(command)), str)
            if not command.startswith("steps"):
                self.check_error(NoSteps, empty.execute, command)

    def test_no_steps(self):
        desk = Desk()
        for command in COMMANDS + ["undo", "other none"]:
            self.check_error(NoSteps, desk.execute, command)
        self.check_error(InvalidCommand, desk.execute, "steps x")
        self.check_error(NoSteps, desk.execute, "same")
        desk.execute("steps none")
        for command in COMMANDS:
            self.assertIs(type(desk.execute(command)), str)

    def test_nothing_to_undo(self):
        desk = Desk()
        desk.execute("steps c")
        for command in ["other c", "run 5", "rest", "same"]:
            desk.execute(command)
            self.check_error(NothingToUndo, desk.execute, "undo")
        desk.execute("read 0")
        desk.execute("undo")
        self.check_error(NothingToUndo, desk.execute, "undo")

    def test_other_without_steps_is_not_kept(self):
        desk = Desk()
        self.check_error(NoSteps, desk.execute, "other +1")
        desk.execute("steps none")
        self.assertEqual(desk.execute("same"), "yes")

    def test_errors_change_nothing(self):
        desk = Desk()
        desk.execute("steps c s")
        desk.execute("other c +1")
        desk.execute("read 0")
        asked = ["rest", "same", "run 44"]
        before = [desk.execute(command) for command in asked]
        for command in ANY + WRONG + [wrong for _, wrong in long_ones()]:
            kept = repr(command)
            self.check_error(InvalidCommand, desk.execute, command)
            self.assertEqual(repr(command), kept)
            self.assertEqual([desk.execute(row) for row in asked], before, command)
        desk.execute("undo")
        self.check_error(NothingToUndo, desk.execute, "undo")
        self.assertEqual([desk.execute(row) for row in asked], ["c s", "yes", "41"])

    def test_questions_change_nothing(self):
        desk = Desk()
        desk.execute("steps c s")
        desk.execute("other f")
        desk.execute("read 0")
        asked = ["run 44", "ends 44", "rest", "same", "part", "origins 41 6", "fixed 5", "short"]
        before = [desk.execute(command) for command in asked]
        for _ in range(3):
            self.assertEqual([desk.execute(command) for command in asked], before)
        desk.execute("undo")
        self.check_error(NothingToUndo, desk.execute, "undo")


class TwoDesks(Checks):
    def test_side_by_side(self):
        one, two = Desk(), Desk()
        one.execute("steps c")
        self.check_error(NoSteps, two.execute, "rest")
        two.execute("steps f t")
        one.execute("other c")
        two.execute("read 0")
        self.assertEqual((one.execute("rest"), two.execute("rest")), ("c", "f t"))
        two.execute("read 1")
        self.assertEqual((one.execute("rest"), two.execute("rest")), ("c", "t"))
        self.assertEqual((one.execute("same"), two.execute("same")), ("yes", "no"))
        self.check_error(NothingToUndo, one.execute, "undo")
        one.execute("read 1")
        two.execute("undo")
        self.assertEqual((one.execute("rest"), two.execute("rest")), ("none", "f t"))


if __name__ == "__main__":
    unittest.main()
