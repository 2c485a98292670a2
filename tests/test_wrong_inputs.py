"""Each error of each function: values of any kind in place of each parameter, one and several at a time."""

import copy
import itertools
import unittest

from lowtricks import alike, errors, fixed, origins, reading, search, steps, tails, texts


def deep(levels):
    value = ("c",)
    for _ in range(levels - 1):
        value = (value,)
    return value


NO_INTEGERS = [True, False, None, "", "1", "c", b"1", (), (1,), [], [1], [[2]], {}, {"a": 1}, deep(20)]

GOOD_STEPS = ("c", 5, "f", "s")

GOOD = {
    "steps": [GOOD_STEPS],
    "number": [44],
    "step": ["c"],
    "word": ["01"],
    "index": [0, 3],
    "place": [0, 3, 10 ** 30],
    "near": [0, 200],
    "width": [0, 200],
    "other": [("t", -5), ()],
    "still": [("t", 5, -5)],
    "value": [7],
    "count": [0],
    "below": [0],
    "unchanged": [0],
    "times": [0, 300],
    "length": [0, 3],
    "longest": [0, 4],
    "text": ["c +5 f s", "none"],
}

NO_STEPS = [True, None, 0, 5, "", "c", "csft", b"c", [], ["c"], ["c", 5], {}, {"c": 1}, (True,), ("c", False), (None,),
              ("cs",), ("",), ("C",), (b"c",), ((),), ("c", ("s",)), (["c"],), (1, 2, "x"), deep(20)]

BAD = {
    "steps": NO_STEPS,
    "number": NO_INTEGERS,
    "step": [True, False, None, "", "C", "cs", "x", "1", b"c", (), ("c",), (1,), [], ["c"], [1], {}, deep(20)],
    "word": [True, None, 0, 1, "2", "01 ", " ", "0x1", "0\n", "-1", b"01", (), ("0", "1"), [], ["0"], {}, "1" * 201,
             deep(20)],
    "index": NO_INTEGERS + [-1, -4, 1, 4, 5, 10 ** 30, -10 ** 30],
    "place": NO_INTEGERS + [-1, -10 ** 30],
    "near": NO_INTEGERS + [-1, 201, 10 ** 30],
    "width": NO_INTEGERS + [-1, 201, 10 ** 30],
    "other": NO_STEPS,
    "still": NO_STEPS,
    "value": NO_INTEGERS,
    "count": NO_INTEGERS + [-1, -10 ** 30],
    "below": NO_INTEGERS,
    "unchanged": NO_INTEGERS,
    "times": NO_INTEGERS + [-1, 301, 10 ** 30],
    "length": NO_INTEGERS + [-1, 4, 10 ** 30],
    "longest": NO_INTEGERS + [-1, 5, 10 ** 30],
    "text": [True, None, 0, 5, "", " ", "x", "5", "-0", "+05", "c  s", "c ", "c\n", b"c", (), ("c",), [], ["c"], {},
             {"c": 1}, deep(20)],
}

# Values that only raise an error behind those of all parameters.
LATE = {
    "count": [2 ** 201, 10 ** 70],
    "below": [-1, -10 ** 70, 2 ** 200, 10 ** 70],
    "unchanged": [1, 7, -1, -2, -10 ** 70, 2 ** 200, 10 ** 70],
}

ERRORS = {
    "steps": errors.InvalidSteps,
    "number": errors.InvalidNumber,
    "step": errors.InvalidSteps,
    "word": errors.InvalidWord,
    "index": errors.InvalidIndex,
    "place": errors.InvalidPlace,
    "near": errors.InvalidPlace,
    "width": errors.InvalidWidth,
    "other": errors.InvalidSteps,
    "still": errors.InvalidSteps,
    "value": errors.InvalidNumber,
    "count": errors.InvalidIndex,
    "below": errors.InvalidNumber,
    "unchanged": errors.InvalidNumber,
    "times": errors.InvalidTimes,
    "length": errors.InvalidLength,
    "longest": errors.InvalidLength,
    "text": errors.InvalidText,
}

LATE_ERRORS = {"count": errors.InvalidIndex, "below": errors.InvalidNumber, "unchanged": errors.NotFixed}

# The parameters in the order in which the interface lists their errors.
FUNCTIONS = [
    (steps.stepped, ["number", "step"]),
    (steps.applied, ["steps", "number"]),
    (steps.merged, ["steps"]),
    (steps.plain, ["steps"]),
    (steps.exchanged, ["steps"]),
    (reading.read_word, ["steps", "word"]),
    (reading.ends_of, ["steps", "number"]),
    (reading.listener_at, ["steps", "number", "place"]),
    (reading.end_places, ["steps", "index", "width"]),
    (reading.least_ending, ["steps", "index", "near"]),
    (tails.tail_after, ["steps", "index", "place"]),
    (tails.settled_at, ["steps", "index"]),
    (tails.tails_of, ["steps", "index"]),
    (tails.written_while, ["steps", "index", "near"]),
    (alike.same_function, ["steps", "other"]),
    (alike.parting_number, ["steps", "other"]),
    (alike.parting_below, ["steps", "other"]),
    (alike.count_alike, ["steps", "other", "width"]),
    (origins.is_value, ["steps", "value"]),
    (origins.count_origins, ["steps", "value", "width"]),
    (origins.nth_origin, ["steps", "value", "count", "width"]),
    (origins.origin_index, ["steps", "below", "width"]),
    (fixed.count_fixed, ["steps", "width"]),
    (fixed.nth_fixed, ["still", "count", "width"]),
    (fixed.fixed_index, ["still", "unchanged", "width"]),
    (fixed.walk_fixed, ["still", "width"]),
    (fixed.works_once, ["steps"]),
    (fixed.repeated, ["steps", "number", "times"]),
    (search.shortest, ["steps", "longest"]),
    (search.walk_lists, ["steps", "length"]),
    (search.count_lists, ["steps", "length"]),
    (search.count_functions, ["length"]),
    (texts.show_steps, ["steps"]),
    (texts.read_steps, ["text"]),
]

BY_NAME = ["width", "longest"]
GENERATORS = [tails.tails_of, fixed.walk_fixed, search.walk_lists]


def called(function, kinds, values):
    by_name = {kind: value for kind, value in zip(kinds, values) if kind in BY_NAME}
    in_place = [value for kind, value in zip(kinds, values) if kind not in BY_NAME]
    result = function(*in_place, **by_name)
    if function in GENERATORS:
        return list(itertools.islice(result, 5))
    return result


def choices(kind, most=100):
    """Good, wrong and late values, each with its error."""
    good = [(value, None) for value in GOOD[kind][:1]]
    bad = [(value, ERRORS[kind]) for value in BAD[kind][:most]]
    return good, bad, [(value, "late") for value in LATE.get(kind, [])]


def rows_for(kinds):
    """All rows of values; where these are too many, all with one or two wrong ones, and fewer with more."""
    every = [good + bad + late for good, bad, late in [choices(kind) for kind in kinds]]
    if len(kinds) < 4:
        return itertools.product(*every)
    rows = []
    for some in itertools.combinations(range(len(kinds)), 2):
        parts = [every[at] if at in some else every[at][:1] for at in range(len(kinds))]
        rows.extend(itertools.product(*parts))
    few = [good + bad + late for good, bad, late in [choices(kind, 4) for kind in kinds]]
    return rows + list(itertools.product(*few))


def expected_error(kinds, row):
    """The error of the first parameter with a wrong value, else that of the first late one."""
    for _, error in row:
        if error not in (None, "late"):
            return error
    for kind, (_, error) in zip(kinds, row):
        if error == "late":
            return LATE_ERRORS[kind]
    return None


class WrongInputs(unittest.TestCase):
    def check_error(self, function, kinds, values, expected):
        kept = copy.deepcopy(values)
        shown = (function.__name__, values)
        with self.assertRaises(ValueError, msg=shown) as caught:
            called(function, kinds, values)
        self.assertIs(type(caught.exception), expected, shown)
        self.assertEqual(repr(values), repr(kept), shown)

    def test_the_first_listed_error(self):
        for function, kinds in FUNCTIONS:
            for row in rows_for(kinds):
                expected = expected_error(kinds, row)
                if expected is not None:
                    self.check_error(function, kinds, [value for value, _ in row], expected)

    def test_errors_of_generators_with_the_first_item(self):
        for function, kinds in FUNCTIONS:
            if function in GENERATORS:
                by_name = {kind: "no" for kind in kinds if kind in BY_NAME}
                walk = function(*["no" for kind in kinds if kind not in BY_NAME], **by_name)
                with self.assertRaises(errors.InvalidSteps):
                    next(walk)

    def test_no_error_for_good_values(self):
        for function, kinds in FUNCTIONS:
            for values in itertools.product(*[GOOD[kind] for kind in kinds]):
                kept = copy.deepcopy(values)
                result = called(function, kinds, values)
                self.assertEqual(called(function, kinds, values), result, function.__name__)
                self.assertEqual(values, kept)

    def test_no_index_without_masks(self):
        for function, kinds in FUNCTIONS:
            if "index" in kinds:
                for other in [(), (5,), (0, 1, -1)]:
                    for index in [-1, 0, 1, 2, 3]:
                        values = [{"steps": other, "index": index}.get(kind, 1) for kind in kinds]
                        self.check_error(function, kinds, values, errors.InvalidIndex)

    def test_integers_are_no_masks(self):
        for function, kinds in FUNCTIONS:
            if "index" in kinds:
                for index in [0, 2, 4, 5, -1]:
                    values = [{"steps": (0, "c", 5, "t", 1), "index": index}.get(kind, 1) for kind in kinds]
                    self.check_error(function, kinds, values, errors.InvalidIndex)
                for index in [1, 3]:
                    values = [{"steps": (0, "c", 5, "t", 1), "index": index}.get(kind, 1) for kind in kinds]
                    called(function, kinds, values)

    def test_by_name_only(self):
        for function, kinds in FUNCTIONS:
            if kinds[-1] in BY_NAME:
                with self.assertRaises(TypeError):
                    list(function(*[GOOD[kind][0] for kind in kinds]))

    def test_predicates_take_any_value(self):
        for value in NO_INTEGERS + BAD["steps"] + BAD["step"]:
            kept = copy.deepcopy(value)
            self.assertIsInstance(steps.is_step(value), bool)
            self.assertIsInstance(steps.is_steps(value), bool)
            self.assertEqual(repr(value), repr(kept))
        for value in BAD["steps"]:
            self.assertIs(steps.is_steps(value), False)
        for value in BAD["step"]:
            self.assertIs(steps.is_step(value), False)


if __name__ == "__main__":
    unittest.main()
