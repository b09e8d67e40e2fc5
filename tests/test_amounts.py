"""Points 1.1 and 1.2, with 0.2 (d) and (h) and 0.4."""

import unittest
from fractions import Fraction

from boxmoves.amounts import (
    added, amount_text, below, cut, divided, multiplied, read_amount, rounded, same, taken,
)
from boxmoves.errors import NoQuotient, NoRoom, NoText

LONG = 10 ** 6000 + 7
AMOUNTS = tuple(
    (sign * units, places)
    for units in (0, 1, 4, 5, 6, 10, 15, 25, 49, 50, 99, 100, 149, 150, 995, 12345)
    for sign in (1, -1)
    for places in (0, 1, 2, 3, 9)
)


def value(amount):
    return Fraction(amount[0], 10 ** amount[1])


def to_nought(fraction):
    whole = abs(fraction).numerator // abs(fraction).denominator
    return -whole if fraction < 0 else whole


class ComparingTest(unittest.TestCase):
    def test_same(self):
        self.assertIs(same((150, 2), (15, 1)), True)
        self.assertIs(same((15, 1), (150, 2)), True)
        self.assertIs(same((150, 2), (150, 1)), False)
        self.assertIs(same((1, 0), (-1, 0)), False)
        self.assertIs(same((0, 0), (0, 18)), True)
        self.assertIs(same((-1, 18), (0, 0)), False)
        self.assertIs(same((-20, 1), (-2, 0)), True)

    def test_below(self):
        self.assertIs(below((1, 0), (2, 0)), True)
        self.assertIs(below((2, 0), (1, 0)), False)
        self.assertIs(below((15, 1), (150, 2)), False)
        self.assertIs(below((-1, 0), (0, 18)), True)
        self.assertIs(below((0, 0), (-1, 18)), False)
        self.assertIs(below((-2, 0), (-1, 0)), True)
        self.assertIs(below((9, 0), (10, 1)), False)

    def test_against_fractions(self):
        for one in AMOUNTS:
            for other in AMOUNTS:
                self.assertIs(same(one, other), value(one) == value(other), (one, other))
                self.assertIs(below(one, other), value(one) < value(other), (one, other))


class ReckoningTest(unittest.TestCase):
    def test_added(self):
        self.assertEqual(added((1, 0), (2, 0)), (3, 0))
        self.assertEqual(added((15, 1), (25, 2)), (175, 2))
        self.assertEqual(added((25, 2), (15, 1)), (175, 2))
        self.assertEqual(added((5, 1), (5, 1)), (10, 1))
        self.assertEqual(added((5, 0), (-5, 18)), (5 * 10 ** 18 - 5, 18))
        self.assertEqual(added((0, 0), (0, 4)), (0, 4))

    def test_taken(self):
        self.assertEqual(taken((1, 0), (2, 0)), (-1, 0))
        self.assertEqual(taken((15, 1), (25, 2)), (125, 2))
        self.assertEqual(taken((25, 2), (15, 1)), (-125, 2))
        self.assertEqual(taken((5, 1), (5, 1)), (0, 1))
        self.assertEqual(taken((0, 3), (-7, 0)), (7000, 3))

    def test_multiplied(self):
        self.assertEqual(multiplied((15, 1), (25, 2)), (375, 3))
        self.assertEqual(multiplied((-15, 1), (2, 0)), (-30, 1))
        self.assertEqual(multiplied((-15, 1), (-2, 0)), (30, 1))
        self.assertEqual(multiplied((0, 4), (-2, 3)), (0, 7))

    def test_multiplied_up_to_18_places(self):
        self.assertEqual(multiplied((3, 9), (7, 9)), (21, 18))
        self.assertEqual(multiplied((3, 18), (7, 0)), (21, 18))
        for one, other in (((3, 9), (7, 10)), ((3, 18), (7, 1)), ((7, 1), (3, 18)), ((0, 18), (0, 18))):
            with self.subTest(one=one, other=other), self.assertRaises(NoRoom):
                multiplied(one, other)

    def test_divided(self):
        self.assertEqual(divided((1, 0), (3, 0), 4), (3333, 4))
        self.assertEqual(divided((2, 0), (3, 0), 4), (6666, 4))
        self.assertEqual(divided((6, 0), (3, 0), 0), (2, 0))
        self.assertEqual(divided((1, 2), (4, 0), 2), (0, 2))
        self.assertEqual(divided((1, 0), (4, 2), 0), (25, 0))
        self.assertEqual(divided((1, 18), (1, 0), 3), (0, 3))
        self.assertEqual(divided((0, 5), (-7, 1), 3), (0, 3))
        self.assertEqual(divided((1, 0), (1, 18), 18), (10 ** 36, 18))

    def test_divided_is_cut_with_either_sign(self):
        self.assertEqual(divided((-2, 0), (3, 0), 2), (-66, 2))
        self.assertEqual(divided((2, 0), (-3, 0), 2), (-66, 2))
        self.assertEqual(divided((-2, 0), (-3, 0), 2), (66, 2))
        self.assertEqual(divided((-1, 0), (3, 0), 0), (0, 0))

    def test_divided_by_nought(self):
        for other in ((0, 0), (0, 18)):
            for one in ((1, 0), (0, 0), (-1, 3)):
                with self.subTest(one=one, other=other), self.assertRaises(NoQuotient):
                    divided(one, other, 2)

    def test_against_fractions(self):
        for one in AMOUNTS:
            for other in AMOUNTS:
                places = max(one[1], other[1])
                self.assertEqual(added(one, other), ((value(one) + value(other)) * 10 ** places, places))
                self.assertEqual(taken(one, other), ((value(one) - value(other)) * 10 ** places, places))
                together = one[1] + other[1]
                self.assertEqual(multiplied(one, other), (value(one) * value(other) * 10 ** together, together))
                if other[0] != 0:
                    quotient = value(one) / value(other)
                    for kept in (0, 3):
                        self.assertEqual(divided(one, other, kept), (to_nought(quotient * 10 ** kept), kept))

    def test_exact_however_great(self):
        self.assertEqual(added((LONG, 0), (1, 1)), (LONG * 10 + 1, 1))
        self.assertEqual(taken((LONG, 2), (LONG - 1, 2)), (1, 2))
        self.assertEqual(multiplied((LONG, 1), (LONG, 2)), (LONG * LONG, 3))
        self.assertEqual(divided((LONG * 3, 0), (LONG, 0), 0), (3, 0))


class CuttingTest(unittest.TestCase):
    def test_cut(self):
        self.assertEqual(cut((1299, 3), 1), (12, 1))
        self.assertEqual(cut((-1299, 3), 1), (-12, 1))
        self.assertEqual(cut((-9, 1), 0), (0, 0))
        self.assertEqual(cut((1299, 3), 3), (1299, 3))
        self.assertEqual(cut((-1299, 3), 5), (-129900, 5))
        self.assertEqual(cut((0, 0), 18), (0, 18))

    def test_rounded(self):
        self.assertEqual(rounded((124, 2), 1), (12, 1))
        self.assertEqual(rounded((126, 2), 1), (13, 1))
        self.assertEqual(rounded((1249, 3), 1), (12, 1))
        self.assertEqual(rounded((-1251, 3), 1), (-13, 1))
        self.assertEqual(rounded((125, 2), 2), (125, 2))
        self.assertEqual(rounded((-125, 2), 4), (-12500, 4))

    def test_a_half_goes_away_from_nought(self):
        self.assertEqual(rounded((125, 2), 1), (13, 1))
        self.assertEqual(rounded((135, 2), 1), (14, 1))
        self.assertEqual(rounded((-125, 2), 1), (-13, 1))
        self.assertEqual(rounded((5, 1), 0), (1, 0))
        self.assertEqual(rounded((-5, 1), 0), (-1, 0))
        self.assertEqual(rounded((-5, 18), 17), (-1, 17))
        self.assertEqual(rounded((4999, 4), 0), (0, 0))
        self.assertEqual(rounded((-4999, 4), 0), (0, 0))

    def test_against_fractions(self):
        for amount in AMOUNTS:
            for places in range(12):
                scaled = value(amount) * 10 ** places
                self.assertEqual(cut(amount, places), (to_nought(scaled), places))
                half = Fraction(1, 2) if amount[0] >= 0 else Fraction(-1, 2)
                self.assertEqual(rounded(amount, places), (to_nought(scaled + half), places))

    def test_somewhat_beyond_the_bounds_of_places(self):
        self.assertEqual(cut((-129, 0), -1), (-12, -1))
        self.assertEqual(amount_text((-12, -1)), "-120")
        self.assertEqual(amount_text((12, 20)), "0.00000000000000000012")
        self.assertEqual(cut((12, 20), 19), (1, 19))
        self.assertEqual(rounded((15, 20), 19), (2, 19))
        self.assertEqual(added((1, 19), (1, 0)), (10 ** 19 + 1, 19))
        self.assertEqual(divided((1, 0), (3, 0), 19), (3333333333333333333, 19))


class WritingTest(unittest.TestCase):
    WRITTEN = (
        ((0, 0), "0"),
        ((7, 0), "7"),
        ((-7, 0), "-7"),
        ((100, 0), "100"),
        ((0, 2), "0.00"),
        ((5, 1), "0.5"),
        ((5, 2), "0.05"),
        ((-5, 2), "-0.05"),
        ((50, 2), "0.50"),
        ((-12345, 2), "-123.45"),
        ((1000, 3), "1.000"),
        ((1, 18), "0.000000000000000001"),
        ((-123456789012345678901, 18), "-123.456789012345678901"),
        ((10 ** 18, 0), "1000000000000000000"),
        ((10 ** 36 + 10 ** 18, 0), "1000000000000000001000000000000000000"),
    )

    def test_amount_text(self):
        for amount, text in self.WRITTEN:
            with self.subTest(text=text):
                self.assertEqual(amount_text(amount), text)

    def test_read_amount(self):
        for amount, text in self.WRITTEN:
            with self.subTest(text=text):
                self.assertEqual(read_amount(text), amount)

    def test_written_is_read_back(self):
        for amount in AMOUNTS + ((10 ** 17 - 1, 0), (-10 ** 19, 18)):
            self.assertEqual(read_amount(amount_text(amount)), amount)

    def test_very_long_amounts_are_read_back(self):
        for amount in ((LONG, 0), (-LONG, 18)):
            self.assertTrue(read_amount(amount_text(amount)) == amount)
        self.assertTrue(amount_text((LONG, 0)) == "1" + "0" * 5999 + "7")

    def test_other_texts_are_refused(self):
        for text in (
            "", " ", "-", ".", "-.", "+", "+1", "--1", "1-", " 1", "1 ", "1 2", "- 1",
            "-0", "-0.0", "-0.00", "00", "01", "-01", "00.5", "007.5",
            ".5", "-.5", "5.", "-5.", "0.", "1..2", "1.2.3", "1.-2", "1.2-", "1,5", "1.5 ", "1. 5",
            "1_000", "1e3", "0x1", "abc", "1a", "a1", "1.a", "1\n", "(1, 0)", "\u0661", "1\u00b2",
            "0.0000000000000000001", "1." + "0" * 19,
        ):
            with self.subTest(text=text), self.assertRaises(NoText):
                read_amount(text)


if __name__ == "__main__":
    unittest.main()
