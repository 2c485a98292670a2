"""Each error of each function: values of any kind in place of each parameter, one and several at a time."""

import copy
import itertools
import unittest

from lowtricks import errors, reading, steps, tails


def deep(levels):
    value = ("c",)
    for _ in range(levels - 1):
        value = (value,)
    return value


NO_INTEGERS = [True, False, None, "", "1", "c", b"1", (), (1,), [], [1], [[2]], {}, {"a": 1}, deep(20)]

GOOD_STEPS = ("c", 5, "f", "s")

GOOD = {
    "steps": [GOOD_STEPS],
    "number": [44],
    "step": ["c"],
    "word": ["01"],
    "index": [0, 3],
    "place": [0, 3, 10 ** 30],
    "near": [0, 200],
    "width": [0, 200],
}

BAD = {
    "steps": [True, None, 0, 5, "", "c", "csft", b"c", [], ["c"], ["c", 5], {}, {"c": 1}, (True,), ("c", False), (None,),
              ("cs",), ("",), ("C",), (b"c",), ((),), ("c", ("s",)), (["c"],), (1, 2, "x"), deep(20)],
    "number": NO_INTEGERS,
    "step": [True, False, None, "", "C", "cs", "x", "1", b"c", (), ("c",), (1,), [], ["c"], [1], {}, deep(20)],
    "word": [True, None, 0, 1, "2", "01 ", " ", "0x1", "0\n", "-1", b"01", (), ("0", "1"), [], ["0"], {}, "1" * 201,
             deep(20)],
    "index": NO_INTEGERS + [-1, -4, 1, 4, 5, 10 ** 30, -10 ** 30],
    "place": NO_INTEGERS + [-1, -10 ** 30],
    "near": NO_INTEGERS + [-1, 201, 10 ** 30],
    "width": NO_INTEGERS + [-1, 201, 10 ** 30],
}

ERRORS = {
    "steps": errors.InvalidSteps,
    "number": errors.InvalidNumber,
    "step": errors.InvalidSteps,
    "word": errors.InvalidWord,
    "index": errors.InvalidIndex,
    "place": errors.InvalidPlace,
    "near": errors.InvalidPlace,
    "width": errors.InvalidWidth,
}

# The parameters in the order in which the interface lists their errors.
FUNCTIONS = [
    (steps.stepped, ["number", "step"]),
    (steps.applied, ["steps", "number"]),
    (steps.merged, ["steps"]),
    (steps.plain, ["steps"]),
    (steps.exchanged, ["steps"]),
    (reading.read_word, ["steps", "word"]),
    (reading.ends_of, ["steps", "number"]),
    (reading.listener_at, ["steps", "number", "place"]),
    (reading.end_places, ["steps", "index", "width"]),
    (reading.least_ending, ["steps", "index", "near"]),
    (tails.tail_after, ["steps", "index", "place"]),
    (tails.settled_at, ["steps", "index"]),
    (tails.tails_of, ["steps", "index"]),
    (tails.written_while, ["steps", "index", "near"]),
]


def called(function, kinds, values):
    by_name = {kind: value for kind, value in zip(kinds, values) if kind == "width"}
    in_place = [value for kind, value in zip(kinds, values) if kind != "width"]
    result = function(*in_place, **by_name)
    if function is tails.tails_of:
        return list(result)
    return result


def choices(kind):
    return [(value, False) for value in GOOD[kind][:1]] + [(value, True) for value in BAD[kind]]


class WrongInputs(unittest.TestCase):
    def check_error(self, function, kinds, values, expected):
        kept = copy.deepcopy(values)
        shown = (function.__name__, values)
        with self.assertRaises(ValueError, msg=shown) as caught:
            called(function, kinds, values)
        self.assertIs(type(caught.exception), expected, shown)
        self.assertEqual(repr(values), repr(kept), shown)

    def test_the_first_listed_error(self):
        for function, kinds in FUNCTIONS:
            for row in itertools.product(*[choices(kind) for kind in kinds]):
                wrong = [kind for kind, (_, bad) in zip(kinds, row) if bad]
                if wrong:
                    values = [value for value, _ in row]
                    self.check_error(function, kinds, values, ERRORS[wrong[0]])

    def test_no_error_for_good_values(self):
        for function, kinds in FUNCTIONS:
            for values in itertools.product(*[GOOD[kind] for kind in kinds]):
                kept = copy.deepcopy(values)
                result = called(function, kinds, values)
                self.assertEqual(called(function, kinds, values), result, function.__name__)
                self.assertEqual(values, kept)

    def test_no_index_without_masks(self):
        for function, kinds in FUNCTIONS:
            if "index" in kinds:
                for other in [(), (5,), (0, 1, -1)]:
                    for index in [-1, 0, 1, 2, 3]:
                        values = [{"steps": other, "index": index}.get(kind, 1) for kind in kinds]
                        self.check_error(function, kinds, values, errors.InvalidIndex)

    def test_integers_are_no_masks(self):
        for function, kinds in FUNCTIONS:
            if "index" in kinds:
                for index in [0, 2, 4, 5, -1]:
                    values = [{"steps": (0, "c", 5, "t", 1), "index": index}.get(kind, 1) for kind in kinds]
                    self.check_error(function, kinds, values, errors.InvalidIndex)
                for index in [1, 3]:
                    values = [{"steps": (0, "c", 5, "t", 1), "index": index}.get(kind, 1) for kind in kinds]
                    called(function, kinds, values)

    def test_width_by_name_only(self):
        with self.assertRaises(TypeError):
            reading.end_places(GOOD_STEPS, 0, 4)

    def test_predicates_take_any_value(self):
        for value in NO_INTEGERS + BAD["steps"] + BAD["step"]:
            kept = copy.deepcopy(value)
            self.assertIsInstance(steps.is_step(value), bool)
            self.assertIsInstance(steps.is_steps(value), bool)
            self.assertEqual(repr(value), repr(kept))
        for value in BAD["steps"]:
            self.assertIs(steps.is_steps(value), False)
        for value in BAD["step"]:
            self.assertIs(steps.is_step(value), False)


if __name__ == "__main__":
    unittest.main()
