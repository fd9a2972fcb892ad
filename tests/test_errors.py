import unittest

from turnweave import errors

NAMES = ["NoText", "NoPlace", "NoTurning", "Clash", "NoWay", "NoUse", "Apart", "TooGreat", "NoName", "NoRow"]


class ErrorsTest(unittest.TestCase):
    def test_turn_error_stands_under_value_error(self):
        self.assertEqual(errors.TurnError.__bases__, (ValueError,))

    def test_each_stands_straight_under_turn_error(self):
        for name in NAMES:
            with self.subTest(name=name):
                kind = getattr(errors, name)
                self.assertEqual(kind.__bases__, (errors.TurnError,))
                self.assertTrue(issubclass(kind, ValueError))

    def test_none_stands_under_another_one(self):
        for one in NAMES:
            for other in NAMES:
                with self.subTest(one=one, other=other):
                    under = issubclass(getattr(errors, one), getattr(errors, other))
                    self.assertEqual(under, one == other)

    def test_each_bears_its_own_name(self):
        for name in NAMES + ["TurnError"]:
            self.assertEqual(getattr(errors, name).__name__, name)

    def test_each_can_be_raised_and_taken_as_turn_error(self):
        for name in NAMES:
            with self.subTest(name=name), self.assertRaises(errors.TurnError):
                raise getattr(errors, name)("some words")


if __name__ == "__main__":
    unittest.main()
