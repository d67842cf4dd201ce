"""Point 0.3: the refusals."""

import unittest

from numbersay import errors

NAMES = [
    "BadRule", "NotCovered", "BadParts", "BadBound", "BadMelt", "Twice", "BadRow",
    "BadKind", "NoKind", "NoName", "Unclear", "BadPairs", "BadText",
]


class RefusalsTest(unittest.TestCase):

    def test_say_error_is_a_value_error(self):
        self.assertTrue(issubclass(errors.SayError, ValueError))

    def test_each_stands_under_say_error(self):
        for name in NAMES:
            with self.subTest(name=name):
                refusal = getattr(errors, name)
                self.assertTrue(issubclass(refusal, errors.SayError))
                self.assertTrue(issubclass(refusal, ValueError))
                self.assertIsNot(refusal, errors.SayError)
                self.assertEqual(refusal.__name__, name)

    def test_none_stands_under_another(self):
        for one in NAMES:
            for other in NAMES:
                if one != other:
                    with self.subTest(one=one, other=other):
                        self.assertFalse(issubclass(getattr(errors, one), getattr(errors, other)))

    def test_each_is_raised_and_caught_as_a_say_error(self):
        for name in NAMES:
            with self.subTest(name=name):
                with self.assertRaises(errors.SayError):
                    raise getattr(errors, name)("why")

    def test_bad_text_tells_its_row(self):
        self.assertEqual(errors.BadText(0).row, 0)
        self.assertEqual(errors.BadText(row=7).row, 7)

    def test_bad_text_can_be_shown_whatever_its_row(self):
        self.assertIsInstance(str(errors.BadText(10 ** 5000)), str)

    def test_twice_tells_its_title(self):
        self.assertEqual(errors.Twice("which").title, "which")


if __name__ == "__main__":
    unittest.main()
