"""Points 4.1, 4.2 and 4.3, with 0.2 (b) and (d)."""

import unittest
from fractions import Fraction

from boxmoves.amounts import added, cut, multiplied, same
from boxmoves.editing import edited
from boxmoves.errors import NoFigures, NoLetters, NoMove, NoPicture, NoRoom
from boxmoves.moving import amount_in, blank, content_of, move, stored
from boxmoves.pictures import room, size_of

LONG = 10 ** 6000 + 7
FIGURES = "0123456789"
ALL_SIGNS = [chr(code) for code in range(32, 127)]
NUMBERS = ("9", "S9", "99", "9V9", "S9V9", "V9", "SV9", "9(3)V99", "S9(3)V99", "S9(18)", "SV9(18)", "S9(9)V9(9)")
NO_NUMBERS = ("Z9", "$$9.99", "9,9", "+9", "9CR", "X", "X(60)", "A", "AAA")
NO_PICTURES = ("", "Q", "9V", "S", "9(19)", "X(61)", "x")
AMOUNTS = tuple(
    (sign * units, places)
    for units in (0, 1, 4, 5, 6, 9, 10, 45, 49, 50, 55, 94, 95, 99, 100, 149, 150, 995, 999, 12345, 10 ** 18, LONG)
    for sign in (1, -1)
    for places in (0, 1, 2, 3, 18)
)
KINDS = ("number", "edited", "text", "letters")
PICTURES = {"number": "S999", "edited": "-ZZ9", "text": "X(4)", "letters": "A(4)"}
# What there is in a box of each kind, so that it might be moved to each other kind, if it were moved at all.
CONTENTS = {"number": "012", "edited": "  12", "text": " 12 ", "letters": "ab d"}


def value(amount):
    return Fraction(amount[0], 10 ** amount[1])


class ContentTest(unittest.TestCase):
    def test_without_sign(self):
        for picture, amount, content in (
            ("999", (5, 0), "005"), ("999", (-5, 0), "005"), ("999", (0, 0), "000"), ("9V9", (15, 1), "15"),
            ("9V9", (-15, 1), "15"), ("999V99", (15, 1), "00150"), ("V99", (5, 2), "05"), ("9(5)V9", (123, 0),
            "001230"),
        ):
            with self.subTest(picture=picture, amount=amount):
                self.assertEqual(content_of(picture, amount), content)

    def test_with_sign(self):
        for picture, amount, content in (
            ("S999", (5, 0), "005"), ("S999", (-5, 0), "00u"), ("S999", (0, 0), "000"), ("S9V9", (-15, 1), "1u"),
            ("S9V9", (-1, 0), "1p"), ("S999V99", (-15, 1), "0015p"), ("SV9", (-1, 1), "q"), ("S9", (-9, 0), "y"),
        ):
            with self.subTest(picture=picture, amount=amount):
                self.assertEqual(content_of(picture, amount), content)

    def test_last_figures_below_0(self):
        for figure, sign in enumerate("pqrstuvwxy"):
            self.assertEqual(content_of("S99", (-10 - figure, 0)), "1" + sign)
            self.assertEqual(amount_in("S99", "1" + sign), (-10 - figure, 0))
            self.assertEqual(content_of("S99", (10 + figure, 0)), f"1{figure}")

    def test_more_figures_than_room(self):
        for picture, amount, content in (
            ("99", (12345, 0), "45"), ("S99", (-12345, 0), "4u"), ("9V9", (98765, 3), "87"), ("S9V9", (-98765, 3),
            "8w"),
            ("99", (199, 2), "01"), ("S99", (-199, 2), "0q"), ("V99", (12345, 3), "34"), ("S9", (LONG, 0), "7"),
            ("S9", (-LONG, 0), "w"),
            # Of these only noughts stay, so they are not below 0.
            ("S9", (-10, 0), "0"), ("S9V9", (-5, 2), "00"), ("S99", (-9, 1), "00"), ("SV9", (-1, 0), "0"),
            ("S9", (-1, 18), "0"),
        ):
            with self.subTest(picture=picture, amount=amount):
                self.assertEqual(content_of(picture, amount), content)

    def test_size(self):
        for picture in NUMBERS:
            for amount in AMOUNTS:
                self.assertEqual(len(content_of(picture, amount)), size_of(picture))

    def test_no_number(self):
        for picture in NO_NUMBERS + NO_PICTURES:
            for amount in ((0, 0), (-15, 1)):
                with self.subTest(picture=picture), self.assertRaises(NoRoom):
                    content_of(picture, amount)


class AmountInTest(unittest.TestCase):
    def test_ordinary(self):
        for picture, content, amount in (
            ("999", "005", (5, 0)), ("999", "000", (0, 0)), ("9V9", "15", (15, 1)), ("V99", "05", (5, 2)),
            ("9", "7", (7, 0)),
            ("S999", "005", (5, 0)), ("S999", "00u", (-5, 0)), ("S9V9", "1p", (-10, 1)), ("SV9", "y", (-9, 1)),
            ("S999", "00p", (0, 0)), ("S9V9", "0p", (0, 1)), ("9(18)", "9" * 18, (10 ** 18 - 1, 0)),
            ("SV9(18)", "0" * 17 + "q", (-1, 18)),
        ):
            with self.subTest(picture=picture, content=content):
                self.assertEqual(amount_in(picture, content), amount)

    def test_another_size(self):
        for picture, content in (
            ("999", ""), ("999", "1"), ("999", "12"), ("999", "1234"), ("999", "0123"), ("S9", ""), ("S9", "00"),
            ("S9", "0p"),
            ("9V9", "1.5"), ("9V9", "1"), ("S99", "-12"), ("S99", "p"),
        ):
            with self.subTest(picture=picture, content=content), self.assertRaises(NoFigures):
                amount_in(picture, content)

    def test_other_signs(self):
        for picture, content in (
            ("999", "12 "), ("999", " 12"), ("999", "1 2"), ("999", "   "), ("999", "12a"), ("999", "-12"),
            ("999", "+12"),
            ("999", "1.2"), ("999", "1_2"), ("99", "1\u0661"), ("99", "1\u00b2"),
            # Letters for figures stand where the picture is signed, at the end, and are p to y alone.
            ("999", "12q"), ("9", "p"), ("9V9", "1y"), ("S999", "q12"), ("S999", "1q2"), ("S999", "1qq"), ("S99", "pp"),
            ("S999", "12o"), ("S999", "12z"), ("S999", "12P"), ("S999", "12Y"), ("S999", "12-"), ("S999", " 2q"),
            ("S9", " "),
        ):
            with self.subTest(picture=picture, content=content), self.assertRaises(NoFigures):
                amount_in(picture, content)

    def test_each_sign_at_each_place(self):
        for sign in ALL_SIGNS:
            for content, picture, good in (
                (sign + "2", "S99", FIGURES), ("1" + sign, "S99", FIGURES + "pqrstuvwxy"), ("1" + sign, "99", FIGURES),
            ):
                with self.subTest(picture=picture, content=content):
                    if sign in good:
                        self.assertIn(amount_in(picture, content)[0], range(-19, 100))
                    else:
                        self.assertRaises(NoFigures, amount_in, picture, content)

    def test_no_number(self):
        for picture in NO_NUMBERS + NO_PICTURES:
            for content in ("", "5", "05", "xx", "00005"):
                with self.subTest(picture=picture, content=content), self.assertRaises(NoRoom):
                    amount_in(picture, content)

    def test_put_and_read_back(self):
        for picture in NUMBERS:
            signed, before, behind = room(picture)
            for amount in AMOUNTS:
                units, places = amount_in(picture, content_of(picture, amount))
                left = abs(value(amount)) * 10 ** behind // 1 % 10 ** (before + behind)
                self.assertEqual(units, -left if signed and amount[0] < 0 else left, (picture, amount))
                self.assertEqual(places, behind)

    def test_moved_on_to_a_box_with_at_least_these_places(self):
        for picture in NUMBERS:
            for other in NUMBERS:
                (signed, before, behind), (to_signed, to_before, to_behind) = room(picture), room(other)
                if to_signed < signed or to_before < before or to_behind < behind:
                    continue
                for amount in AMOUNTS:
                    content = content_of(picture, amount)
                    moved = amount_in(other, move(content, picture, other))
                    self.assertTrue(same(moved, amount_in(picture, content)), (picture, other, amount))


class MoveTest(unittest.TestCase):
    def check(self, *rows):
        for content, picture, other, moved in rows:
            with self.subTest(content=content, picture=picture, other=other):
                self.assertEqual(move(content, picture, other), moved)
                self.assertEqual(len(moved), size_of(other))

    def refuse(self, error, *rows):
        for content, picture, other in rows:
            for right in (False, True):
                with self.subTest(content=content, picture=picture, other=other), self.assertRaises(error):
                    move(content, picture, other, right=right)

    def test_each_pair_of_kinds(self):
        moved = {
            ("number", "number"): "012", ("number", "edited"): "  12", ("number", "text"): "012 ",
            ("edited", "number"): "012", ("edited", "edited"): "  12", ("edited", "text"): "  12",
            ("text", "number"): "012", ("text", "edited"): "  12", ("text", "text"): " 12 ",
            ("letters", "text"): "ab d", ("letters", "letters"): "ab d",
        }
        for source in KINDS:
            for target in KINDS:
                if (source, target) in moved:
                    self.check((CONTENTS[source], PICTURES[source], PICTURES[target], moved[source, target]))
                elif (source, target) != ("text", "letters"):
                    self.refuse(NoMove, (CONTENTS[source], PICTURES[source], PICTURES[target]))
        self.check((" ab ", "X(4)", "A(4)", " ab "))

    def test_from_a_number_to_figures(self):
        self.check(
            ("00u", "S999", "S9V9", "5p"), ("00u", "S999", "99", "05"), ("12345", "999V99", "9V9", "34"),
            ("123", "999", "9(5)V99", "0012300"), ("1u", "S9V9", "S9", "q"), ("0p", "S99", "S9", "0"),
            ("0u", "SV99", "S9", "0"),
            ("12345", "999V99", "Z,ZZ9.99CR", "  123.45  "), ("1234u", "S999V99", "Z,ZZ9.99CR", "  123.45CR"),
            ("1234u", "S999V99", "Z9", "23"), ("00000", "999V99", "**.**", "**.**"), ("00u", "S999", "--9", " -5"),
        )
        self.refuse(
            NoFigures, ("1x", "99", "99"), ("1q", "99", "S99"), ("123", "99", "99"), ("", "9", "Z"),
            ("1 ", "S99", "Z9"),
        )

    def test_from_a_number_to_a_text(self):
        self.check(
            ("007", "999", "XXX", "007"), ("007", "999", "X(5)", "007  "), ("007", "999", "XX", "00"),
            ("12u", "S999", "XXX", "125"),
            ("00p", "S999", "XXX", "000"), ("12u", "S999", "X(5)", "125  "), ("125", "S999", "X", "1"),
        )
        self.refuse(
            NoFigures, ("12", "999", "XXX"), ("1a3", "999", "XXX"), ("12q", "999", "XXX"), ("   ", "999", "X"),
            ("q12", "S999", "XXX"),
        )
        self.refuse(NoMove, ("15", "9V9", "XX"), ("5", "V9", "X"), ("1u", "S9V9", "XX"), ("5", "SV9", "X(60)"))

    def test_from_edited_figures(self):
        self.check(
            ("    $5.00CR", "$$,$$9.99CR", "S9(4)V99", "00050p"), ("    $5.00CR", "$$,$$9.99CR", "9(4)V99", "000500"),
            ("    $5.00CR", "$$,$$9.99CR", "-9.9", "-5.0"), ("    $5.00CR", "$$,$$9.99CR", "X(11)", "    $5.00CR"),
            ("    $5.00CR", "$$,$$9.99CR", "X(6)", "    $5"), ("1,234.56", "Z,ZZ9.99", "99V9", "345"),
            ("  ", "ZZ", "99", "00"), ("  ", "ZZ", "$$9", " $0"), (" 5", "Z9", "X(4)", " 5  "),
            # To a text whatever stands there is moved.
            ("xy", "Z9", "XXX", "xy "), ("05", "Z9", "XX", "05"),
        )
        self.refuse(
            NoFigures, ("05", "Z9", "99"), ("xy", "Z9", "99"), ("05", "Z9", "ZZ"), ("5", "Z9", "Z"),
            (" -5", "ZZ9", "S9"),
        )
        self.refuse(NoMove, (" 5", "Z9", "AA"), ("05", "Z9", "AA"), ("ab", "Z9", "AA"))

    def test_from_a_text_to_figures(self):
        self.check(
            ("123", "XXX", "9(5)", "00123"), ("123", "XXX", "9", "3"), ("123", "XXX", "99V99", "2300"),
            ("  7", "XXX", "S99", "07"),
            ("7  ", "XXX", "99", "07"), ("  7  ", "X(5)", "ZZ9.9", "  7.0"), ("007", "XXX", "Z9", " 7"),
            ("0", "X", "Z", " "),
            ("9" * 18, "X(18)", "9(18)", "9" * 18), (" " + "9" * 18 + " ", "X(20)", "9(18)", "9" * 18),
            ("0" * 17 + "5", "X(18)", "S9", "5"), ("5", "X", "V9", "0"), ("12", "XX", "+$$9", "+$12"),
        )
        self.refuse(
            NoFigures, ("1" * 19, "X(19)", "9(18)"), ("0" * 19, "X(19)", "9"), ("   ", "XXX", "9"), (" ", "X", "Z9"),
            ("1 2", "XXX", "999"),
            ("-12", "XXX", "S99"), ("1.5", "XXX", "9V9"), ("1,5", "XXX", "9,9"), ("abc", "XXX", "9"),
            ("12a", "XXX", "99"),
            ("12q", "XXX", "S999"), ("+12", "XXX", "+99"), ("1\t", "XX", "9"), ("\n1", "XX", "9"),
        )

    def test_from_texts_and_letters_to_texts_and_letters(self):
        self.check(
            ("a1-", "XXX", "XXX", "a1-"), ("a1-", "XXX", "X(5)", "a1-  "), ("a1-", "XXX", "XX", "a1"),
            ("aBz", "AAA", "X", "a"),
            ("a Z", "XXX", "AAA", "a Z"), ("abc", "AAA", "A(5)", "abc  "), ("azAZ", "A(4)", "A(4)", "azAZ"),
            ("   ", "XXX", "AAA", "   "),
            ("1-~", "AAA", "XXX", "1-~"),
            # What is cut off is not looked at: the box of letters is not to have it.
            ("ab12", "X(4)", "AA", "ab"),
        )
        self.refuse(
            NoLetters, ("a1b", "XXX", "AAA"), ("12", "XX", "AA"), ("a-b", "XXX", "AAA"), ("a1", "AA", "AA"),
            ("@", "X", "A"),
            ("[", "X", "A"), ("`", "X", "A"), ("{", "X", "A"), ("~", "X", "A(3)"), ("1ab1", "X(4)", "AAA"),
            ("\u00e9", "X", "A"),
            ("\t", "X", "A"), ("a.b", "XXX", "A(9)"),
        )

    def test_each_sign(self):
        for sign in ALL_SIGNS:
            if sign.isalpha() or sign == " ":
                self.check((sign + "b", "XX", "AA", sign + "b"))
            else:
                self.refuse(NoLetters, (sign + "b", "XX", "AA"), ("b" + sign, "AA", "AA"))
            if sign not in FIGURES + " ":
                self.refuse(NoFigures, (sign + "1", "XX", "99"), ("1" + sign, "XX", "S99"))
            self.check((sign + "b", "XX", "XXX", sign + "b "))

    def test_letters_to_figures(self):
        self.refuse(NoMove, ("ab", "AA", "99"), ("  ", "AA", "9"), ("12", "AA", "99"), ("12", "AA", "Z9"),
        ("ab", "AA", "ZZ"))

    def test_at_the_right(self):
        for content, picture, other, moved in (
            ("abc", "XXX", "XXX", "abc"), ("abc", "XXX", "X(5)", "  abc"), ("abc", "XXX", "XX", "bc"),
            ("abc", "XXX", "X", "c"),
            ("abc", "AAA", "A(5)", "  abc"), ("12ab", "X(4)", "AA", "ab"), ("a  ", "XXX", "X(4)", " a  "),
            ("abc", "AAA", "XX", "bc"),
            ("012", "999", "X(5)", "  012"), ("012", "999", "XX", "12"), ("01q", "S999", "XX", "11"),
            (" 5", "Z9", "XXX", "  5"),
            (" 5.00", "Z9.99", "XXX", ".00"),
            # Figures are lined up by their point, whatever is said.
            ("12", "99", "9(4)", "0012"), ("1 ", "XX", "99", "01"), (" 5", "Z9", "Z(4)", "   5"),
            ("12", "99", "9", "2"),
        ):
            with self.subTest(content=content, picture=picture, other=other):
                self.assertEqual(move(content, picture, other, right=True), moved)
        self.assertEqual(move("abc", "XXX", "X(5)", right=False), "abc  ")
        self.assertEqual(move(content="abc", picture="XXX", other="XX"), "ab")

    def test_no_picture(self):
        for wrong in NO_PICTURES:
            self.refuse(
                NoPicture, ("12", wrong, "99"), ("12", "99", wrong), ("12", wrong, wrong), ("xx", wrong, "A"),
                ("xx", "99", wrong),
                ("xx", "AA", wrong), ("", wrong, "X"),
            )

    def test_which_refusal_comes_first(self):
        # NoPicture ahead of NoMove ahead of the others; the contents here are refused too.
        self.refuse(NoPicture, ("x", "A", "Q"), ("x", "Q", "A"), ("x", "9V9", "9V"), ("x", "9V", "X"))
        self.refuse(
            NoMove, ("x", "9V9", "XX"), ("xxx", "9V9", "XX"), ("x", "9", "A"), ("1", "9", "A"), ("00", "Z9", "A"),
            ("12", "AA", "9"),
            ("x", "V9", "A"), ("$", "A", "Z"),
        )


class StoredTest(unittest.TestCase):
    def test_cut(self):
        for picture, amount, content in (
            ("999", (5, 0), "005"), ("999", (59, 1), "005"), ("S999", (-59, 1), "00u"), ("9V9", (1599, 3), "15"),
            ("9V9", (155, 2), "15"), ("S9V9", (-155, 2), "1u"), ("99", (9999, 2), "99"), ("9V99", (15, 1), "150"),
            ("S9", (-9, 1), "0"), ("V9", (99, 2), "9"),
        ):
            with self.subTest(picture=picture, amount=amount):
                self.assertEqual(stored(picture, amount), content)
                self.assertEqual(stored(picture, amount, nearest=False), content)

    def test_rounded(self):
        for picture, amount, content in (
            ("999", (5, 0), "005"), ("999", (54, 1), "005"), ("999", (55, 1), "006"), ("S999", (-54, 1), "00u"),
            ("S999", (-55, 1), "00v"), ("9V9", (1549, 3), "15"), ("9V9", (155, 2), "16"), ("S9V9", (-155, 2), "1v"),
            ("S9V9", (-145, 2), "1u"), ("99", (9849, 2), "98"), ("S9", (-4, 1), "0"), ("S9", (-5, 1), "q"),
            ("9V99", (15, 1), "150"),
            ("99", (-55, 1), "06"), ("9", (949, 2), "9"),
        ):
            with self.subTest(picture=picture, amount=amount):
                self.assertEqual(stored(picture, amount, nearest=True), content)

    def test_no_room(self):
        for picture, amount in (
            ("99", (100, 0)), ("99", (-100, 0)), ("S99", (-100, 0)), ("9V9", (100, 1)), ("V9", (1, 0)),
            ("SV9", (-10, 1)),
            ("9", (LONG, 0)), ("S9(18)", (10 ** 18, 0)), ("99", (10000, 2)),
        ):
            for nearest in (False, True):
                with self.subTest(picture=picture, amount=amount, nearest=nearest):
                    self.assertIsNone(stored(picture, amount, nearest=nearest))

    def test_room_only_before_it_is_rounded(self):
        for picture, amount, content in (
            ("99", (995, 1), "99"), ("S99", (-995, 1), "9y"), ("9V9", (995, 2), "99"), ("V9", (95, 2), "9"),
            ("9", (99, 1), "9"),
        ):
            with self.subTest(picture=picture, amount=amount):
                self.assertEqual(stored(picture, amount), content)
                self.assertIsNone(stored(picture, amount, nearest=True))

    def test_a_sign_that_the_picture_has_not(self):
        self.assertEqual(stored("99", (-5, 0)), "05")
        self.assertEqual(stored("9V9", (-15, 1), nearest=True), "15")
        self.assertEqual(stored("S99", (-5, 0)), "0u")

    def test_sums_and_products(self):
        self.assertEqual(stored("S99V99", added((1005, 2), (-2, 0))), "0805")
        self.assertEqual(stored("99V9", multiplied((125, 2), (3, 1)), nearest=True), "004")
        for one in AMOUNTS[:60]:
            for picture in ("S99V9", "999", "SV99"):
                self.check_result(picture, multiplied(one, one) if one[1] < 10 else added(one, one))
                self.check_result(picture, added(one, (-15, 2)))

    def check_result(self, picture, amount):
        signed, before, behind = room(picture)
        size = abs(value(amount)) * 10 ** behind
        for nearest, units in ((False, size // 1), (True, (size + Fraction(1, 2)) // 1)):
            told = stored(picture, amount, nearest=nearest)
            if units >= 10 ** (before + behind):
                self.assertIsNone(told, (picture, amount))
            else:
                self.assertEqual(amount_in(picture, told), (-units if signed and amount[0] < 0 else units, behind))

    def test_stored_as_cut_where_there_is_room(self):
        for picture in NUMBERS:
            for amount in AMOUNTS:
                told = stored(picture, amount)
                if told is not None:
                    self.assertEqual(told, content_of(picture, cut(amount, room(picture)[2])))

    def test_no_number(self):
        for picture in NO_NUMBERS + NO_PICTURES:
            for amount in ((0, 0), (10 ** 70, 0)):
                for nearest in (False, True):
                    with self.subTest(picture=picture), self.assertRaises(NoRoom):
                        stored(picture, amount, nearest=nearest)


class BlankTest(unittest.TestCase):
    def test_blank(self):
        for picture, content in (
            ("9", "0"), ("S9(3)V99", "00000"), ("V9", "0"), ("X", " "), ("X(5)", "     "), ("A", " "), ("AAA", "   "),
            ("Z9", " 0"), ("ZZ", "  "), ("**.**", "**.**"), ("$$9.99CR", " $0.00  "), ("+9", "+0"), ("9/9", "0/0"),
            ("$$", " $"),
        ):
            with self.subTest(picture=picture):
                self.assertEqual(blank(picture), content)
                self.assertEqual(len(content), size_of(picture))

    def test_edited_figures_are_0_edited(self):
        for picture in ("Z,ZZ9.99", "+$**", "--", "9BDB"):
            self.assertEqual(blank(picture), edited(picture, (0, 0)))


if __name__ == "__main__":
    unittest.main()
