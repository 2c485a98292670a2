import unittest

from lowtricks import errors

WITH_TEXT = [
    "InvalidSteps", "InvalidNumber", "InvalidWord", "InvalidWidth", "InvalidIndex", "InvalidPlace",
    "InvalidLength", "InvalidTimes", "InvalidBit", "InvalidFormat", "InvalidText", "InvalidCommand",
    "NotFixed", "NotTricks", "NothingToUndo", "NoSteps",
]
WITH_LIMIT = ["TooLong", "TooMany"]


class Errors(unittest.TestCase):
    def test_base(self):
        self.assertEqual(errors.LowError.__bases__, (ValueError,))

    def test_directly_under_the_base(self):
        for name in WITH_TEXT + WITH_LIMIT:
            self.assertEqual(getattr(errors, name).__bases__, (errors.LowError,), name)
            self.assertEqual(getattr(errors, name).__module__, "lowtricks.errors", name)

    def test_no_other_errors(self):
        found = [name for name in vars(errors) if not name.startswith("_")]
        self.assertEqual(sorted(found), sorted(["LowError"] + WITH_TEXT + WITH_LIMIT))

    def test_created_with_a_text(self):
        for name in WITH_TEXT:
            error = getattr(errors, name)("some text")
            self.assertEqual(str(error), "some text", name)

    def test_created_with_a_limit(self):
        for name in WITH_LIMIT:
            for limit in [0, 2, 20, 60, 10 ** 30]:
                error = getattr(errors, name)(limit)
                self.assertEqual(error.limit, limit, name)
                self.assertIs(type(error.limit), int)

    def test_raised_and_caught(self):
        for name in WITH_TEXT + WITH_LIMIT:
            made = getattr(errors, name)
            with self.assertRaises(errors.LowError) as caught:
                raise made(20 if name in WITH_LIMIT else "text")
            self.assertIs(type(caught.exception), made)
            self.assertTrue(str(caught.exception))


if __name__ == "__main__":
    unittest.main()
