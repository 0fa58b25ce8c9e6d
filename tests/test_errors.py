"""[0.5] and the interface's guessroom/errors.py."""

import unittest

from guessroom import errors

REFUSALS = (
    "BadHouse", "BadWord", "BadMark", "NoInverse", "OutOfTurn",
    "NoDifference", "Contradiction", "NoPaper", "NoText",
)


class ErrorsTest(unittest.TestCase):
    def test_ask_error_stands_straight_under_value_error(self):
        self.assertEqual(errors.AskError.__bases__, (ValueError,))

    def test_each_refusal_stands_straight_under_ask_error(self):
        for name in REFUSALS:
            with self.subTest(name=name):
                self.assertEqual(getattr(errors, name).__bases__, (errors.AskError,))

    def test_none_stands_under_another_one(self):
        for name in REFUSALS:
            for other in REFUSALS:
                under = issubclass(getattr(errors, name), getattr(errors, other))
                self.assertEqual(under, name == other, (name, other))

    def test_no_other_refusals(self):
        under = [
            name for name, value in vars(errors).items()
            if isinstance(value, type) and issubclass(value, Exception)
        ]
        self.assertEqual(sorted(under), sorted(REFUSALS + ("AskError",)))

    def test_each_is_raised_and_taken_as_any_refusal(self):
        for name in REFUSALS:
            for kind in (errors.AskError, ValueError):
                with self.assertRaises(kind):
                    raise getattr(errors, name)("why")


if __name__ == "__main__":
    unittest.main()
