import unittest

from likehands import errors

NAMES = ("NoPattern", "NoWorld", "NoMap", "NoStory", "NoRow")


class Errors(unittest.TestCase):
    def test_each_refusal_is_a_hands_error_and_a_value_error(self):
        self.assertTrue(issubclass(errors.HandsError, ValueError))
        for name in NAMES:
            with self.subTest(name):
                self.assertTrue(issubclass(getattr(errors, name), errors.HandsError))
                with self.assertRaises(errors.HandsError):
                    raise getattr(errors, name)("why")
                with self.assertRaises(ValueError):
                    raise getattr(errors, name)("why")

    def test_none_stands_under_another_one(self):
        for name in NAMES:
            for other in NAMES:
                with self.subTest(name=name, other=other):
                    under = issubclass(getattr(errors, name), getattr(errors, other))
                    self.assertEqual(under, name == other)
            self.assertFalse(issubclass(errors.HandsError, getattr(errors, name)))

    def test_they_are_no_errors_of_another_kind(self):
        for name in NAMES + ("HandsError",):
            for other in (KeyError, IndexError, TypeError, ArithmeticError, RuntimeError, UnicodeError):
                self.assertFalse(issubclass(getattr(errors, name), other))


if __name__ == "__main__":
    unittest.main()
