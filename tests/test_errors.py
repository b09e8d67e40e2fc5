"""The interface of errors.py."""

import unittest

from boxmoves import errors

REFUSALS = (
    "NoPicture", "NoRoom", "NoQuotient", "NoText", "NoFigures", "NoLetters", "NoMove", "NoPath",
    "NoAmount", "NoGroup", "BadSize", "NoBack", "BadRow", "Closed",
)


class ErrorsTest(unittest.TestCase):
    def test_any_refusal_is_a_value_error(self):
        self.assertEqual(errors.BoxError.__bases__, (ValueError,))

    def test_refusals_stand_right_below_and_none_below_another(self):
        for name in REFUSALS:
            with self.subTest(name=name):
                self.assertEqual(getattr(errors, name).__bases__, (errors.BoxError,))

    def test_each_refusal_is_a_class_of_its_own(self):
        self.assertEqual(len({getattr(errors, name) for name in REFUSALS}), len(REFUSALS))

    def test_each_can_be_raised_with_words(self):
        for name in REFUSALS + ("BoxError",):
            with self.subTest(name=name), self.assertRaises(errors.BoxError) as caught:
                raise getattr(errors, name)("why")
            self.assertEqual(str(caught.exception), "why")


if __name__ == "__main__":
    unittest.main()
