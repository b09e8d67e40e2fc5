"""Points 2.1, 2.2 and 2.3, with 0.2 (a)."""

import itertools
import re
import unittest

from boxmoves.errors import NoPicture, NoRoom
from boxmoves.pictures import folded, is_picture, kind_of, room, size_of, unfolded

NUMBERS = ("9", "S9", "99", "9V9", "S9V9", "V9", "SV9", "V(1)9(2)", "S(1)9", "9(3)V99", "9(18)", "9(9)V9(9)", "SV9(18)")
TEXTS = ("X", "XX", "X(60)", "X(59)X")
LETTERS = ("A", "AAA", "A(60)", "A(1)A(59)")
EDITED = (
    "+9", "-9", "$9", "+$9", "-$9", "$Z", "-$Z9", "+*", "+$**9",
    "9+", "9-", "9CR", "9DB", "$9+", "$Z-", "$$9CR", "Z.ZDB", "9C(1)R(1)", "9BDB", "9.9+",
    "Z", "ZZZ", "Z9", "ZZ999", "*", "***", "*9", "**99",
    "++", "--", "$$", "+++9", "---", "$$$99", "$(19)", "-(10)9(9)",
    "$++", "$--9", "+$$", "-$$9", "$$+", "$$-", "$$9DB",
    "9,9", "9B9", "909", "9/9", "Z,Z", "ZBZ", "Z0Z", "Z/Z", "*,*", "$,$", "+B+", "-0-", "$/$9", "+$,$9", "-$B$", "$+,+",
    "Z,9", "Z,ZZ9", "99/99/9999", "Z,,,9", "9B(100)9", "9B", "Z,", "$$,", "90", "9,.9",
    "9.9", "Z.9", "Z9.9", "Z.Z", "ZZ,ZZZ.ZZ", "*.9", "*.*", "*9.9", "++.9", "$$9.99", "--,---.99",
    "Z(17)9", "Z(9).Z(9)", "9(17).9", "+9(18)",
)
# For each sentence of the points texts that break just it.
NO_PICTURES = (
    "", " ", "Q", "x", "a", "9 ", " 9", "9\n", "s9", "z9", "E9", "(", ")", "()", "\u0669", "9\u00b2",
    "(3)", "(3)9", "9(", "9)", "9()", "9(3", "9 3)", "93)", "9(3))", "9((3))", "9(3)(2)", "9(0)", "9(00)", "9(01)",
    "9(003)", "9(-1)", "9(+1)", "9( 1)", "9(1 )", "9(1.0)", "9(A)", "9(9", "9(1_0)", "9(\u0661)", "X(0)", "X()9",
    "S", "V", "SV", "9V", "S9V", "9S", "SS9", "S(2)9", "9VV9", "9V(2)9", "9V9V9", "V9V", "VS9", "9S9", "9V9S",
    "9(19)", "9(18)V9", "S9(10)V9(9)", "V9(19)", "X(61)", "A(61)", "X(60)X", "X(1000000000000000000000)",
    "XA", "AX", "X9", "9X", "A9", "9A", "SX", "XV", "X,X", "ABA", "AB", "X.", "+X", "XCR", "A-",
    "S9.9", "SZ", "S9+", "9V9+", "Z9V9", "V9.9", "ZV9", "9V.9", "9V,9",
    "+", "-", "$", "+$", "-$", "$+", "$-", "+-", "CR", "DB", "9$", "9$+", "$+9", "$-9", "+-9", "-+9", "+$-9",
    ".", ".9", "+.9", "$.99", "9.", "Z.", "++.", "9.+", "9.CR", "9.9.9", "9..9", "9.(2)9",
    "+9+", "-9-", "+9-", "+9CR", "-9DB", "++CR", "--9+", "+$9-", "+$$-", "$++-", "++9.9DB",
    "9C", "9R", "9D", "9RC", "9BD", "9CRCR", "9CR+", "9++", "9--", "9+-", "9+9", "9C(2)R", "9CR(2)", "9DB(2)", "CR9",
    ",9", "B9", "09", "/9", ",", "B", "0", "/", ",Z", "0Z", "+,9", "$09", "-B9", "+$/9", "+,$$", "$,9", "B$$", ",++",
    "9Z", "9*", "Z9Z", "*9*", "Z*", "*Z", "Z*9", "Z,*", "9$$", "$$Z", "$$*", "Z$$", "Z++9", "++9+9", "$$9$",
    "++$", "++--", "+-+", "$$++", "$$$+$", "+,-", "$+$", "+$+", "++,9,+",
    "+--", "-++", "+--9", "-+,+", "+$++", "-$--", "+$--", "-$++9",
    "9.Z", "9.*", "Z.*", "*.Z", "Z9.Z", "*9.*", "Z.Z9", "Z.9Z", "*.*9", "Z.ZZ9", "++.+", "$$.$", "--.--", "$$9.$$",
    "9.9,9", "Z.Z,Z", "9.B9", "9.9B", "9.09", "9.90", "9./9", "9./",
    "Z(19)", "*(19)", "Z(18)9", "Z(10).Z(9)", "$(20)", "$(19)9", "+9(19)", "9(18).9", "9(10),9(9)", "-(11)9(9)",
)
THINGS = (
    None, True, False, 0, 9, 99, -1, 1.5, b"9", ("9",), ["9"], {"9": 1}, {"9"}, object(), str, ("9", "9"), (), [], {},
)
KINDS = (("number", NUMBERS), ("text", TEXTS), ("letters", LETTERS), ("edited", EDITED))
ALL = NUMBERS + TEXTS + LETTERS + EDITED

INS = "[,B0/]*"


def place_rows(place):
    return f"{place}(?:{INS}{place})*{INS}"


NINES = f"(?:9{INS})*"
BROKEN = r"(?:\.9+)?"
WHOLE_AND_BROKEN = (
    f"9{INS}{NINES}" + BROKEN,
    place_rows("Z") + NINES + BROKEN,
    place_rows("Z") + r"\.Z+",
    place_rows(r"\*") + NINES + BROKEN,
    place_rows(r"\*") + r"\.\*+",
)
# Each form written down by itself; the first ones show no sign ahead, so a tail may follow them.
FORMS_WITH_TAIL = [re.compile(r"(?:\$?(?:" + "|".join(WHOLE_AND_BROKEN) + ")"
                              + r"|\$" + INS + place_rows(r"\$") + NINES + BROKEN + r")(?:\+|-|CR|DB)?")]
FORMS_WITHOUT_TAIL = [
    re.compile(r"[+-]\$?(?:" + "|".join(WHOLE_AND_BROKEN) + ")"),
    re.compile(r"[+-]\$" + INS + place_rows(r"\$") + NINES + BROKEN),
    re.compile(r"\$?\+" + INS + place_rows(r"\+") + NINES + BROKEN),
    re.compile(r"\$?-" + INS + place_rows("-") + NINES + BROKEN),
]


def kind_by_forms(text):
    """The kind of a short text of symbols written out, by the forms above; None, if it is no picture."""
    if re.fullmatch("S?(9+|9+V9+|V9+)", text):
        return "number"
    if re.fullmatch("X+", text):
        return "text"
    if re.fullmatch("A+", text):
        return "letters"
    if any(form.fullmatch(text) for form in FORMS_WITH_TAIL + FORMS_WITHOUT_TAIL):
        return "edited"
    return None


class FoldingTest(unittest.TestCase):
    def test_unfolded(self):
        for text, out in (
            ("9", "9"), ("9(1)", "9"), ("9(3)", "999"), ("9(10)", "9" * 10), ("S9(2)V9(3)", "S99V999"),
            ("X(2)X(3)X", "X" * 6), ("Z(2),Z(2)9.9(2)C(1)R", "ZZ,ZZ9.99CR"), ("$(3)9", "$$$9"), ("*(2).*(2)", "**.**"),
            ("90(3)", "9000"), ("9.9D(1)B(1)", "9.9DB"), ("A(60)", "A" * 60),
        ):
            with self.subTest(text=text):
                self.assertEqual(unfolded(text), out)

    def test_folded(self):
        for text, short in (
            ("9", "9"), ("9(4)", "9999"), ("9999", "9999"), ("99999", "9(5)"), ("9(5)", "9(5)"), ("9(2)9(3)", "9(5)"),
            ("9(2)9(2)", "9999"), ("S9(5)V9(4)", "S9(5)V9999"), ("X" * 60, "X(60)"), ("Z(4),ZZZZZ9", "ZZZZ,Z(5)9"),
            ("+++++9", "+(5)9"), ("9,,,,,9", "9,(5)9"), ("Z,Z,Z,Z,Z,Z", "Z,Z,Z,Z,Z,Z"), ("9C(1)R(1)", "9CR"),
            ("ZZZZZ.ZZZZZ", "Z(5).Z(5)"), ("S(1)V(1)9", "SV9"), ("900000", "90(5)"),
        ):
            with self.subTest(text=text):
                self.assertEqual(folded(text), short)

    def test_short_and_out_are_the_same(self):
        for text in ALL:
            with self.subTest(text=text):
                short, out = folded(text), unfolded(text)
                self.assertNotIn("(", out)
                self.assertEqual((unfolded(short), folded(out)), (out, short))
                self.assertEqual((unfolded(out), folded(short)), (out, short))
                self.assertEqual(kind_of(short), kind_of(out))
                self.assertEqual(size_of(short), size_of(out))
                if kind_of(text) in ("number", "edited"):
                    self.assertEqual(room(short), room(out))

    def test_no_picture(self):
        for text in NO_PICTURES:
            for told in (unfolded, folded):
                with self.subTest(text=text, told=told.__name__), self.assertRaises(NoPicture):
                    told(text)


class KindsTest(unittest.TestCase):
    def test_pictures(self):
        for kind, pictures in KINDS:
            for picture in pictures:
                with self.subTest(picture=picture):
                    self.assertIs(is_picture(picture), True)
                    self.assertEqual(kind_of(picture), kind)

    def test_no_pictures(self):
        for text in NO_PICTURES:
            with self.subTest(text=text):
                self.assertIs(is_picture(text), False)
                with self.assertRaises(NoPicture):
                    kind_of(text)

    def test_things_that_are_no_texts(self):
        for thing in THINGS:
            with self.subTest(thing=thing):
                self.assertIs(is_picture(thing), False)

    def test_a_number_is_not_edited(self):
        for number, near in (("9", "9,"), ("99", "9.9"), ("999", "9,99"), ("9", "+9"), ("9", "9-"), ("9", "$9"), ("99", "Z9")):
            self.assertEqual((kind_of(number), kind_of(near)), ("number", "edited"))

    def test_most_figures_and_signs(self):
        for symbol, most in (("9", 18), ("Z", 18), ("*", 18), ("$", 19), ("X", 60), ("A", 60)):
            with self.subTest(symbol=symbol):
                for many in range(2, most + 1):
                    self.assertTrue(is_picture(symbol * many))
                    self.assertTrue(is_picture(f"{symbol}({many})"))
                self.assertFalse(is_picture(symbol * (most + 1)))
                self.assertFalse(is_picture(f"{symbol}({most + 1})"))

    def test_inserted_signs_are_not_bounded(self):
        self.assertEqual(kind_of("9B(100)9"), "edited")
        self.assertEqual(size_of("9B(100)9"), 102)
        many = "1" + "0" * 40
        self.assertEqual(folded(f"9B({many})9"), f"9B({many})9")
        self.assertEqual(size_of(f"9B({many})9"), 10 ** 40 + 2)

    def test_very_many_symbols_are_refused_at_once(self):
        for many in ("9" * 30, "9" * 5000):
            for symbol in "9XAZ$SV.+C":
                self.assertIs(is_picture(f"{symbol}({many})"), False)
                self.assertIs(is_picture(f"9{symbol}({many})"), False)


class FormsTest(unittest.TestCase):
    def compare(self, symbols, most):
        for many in range(1, most + 1):
            for row in itertools.product(symbols, repeat=many):
                text = "".join(row)
                kind = kind_by_forms(text)
                if is_picture(text) != (kind is not None) or (kind is not None and kind_of(text) != kind):
                    self.fail(f"{text}: {kind}")

    def test_all_symbols(self):
        self.compare("S9VXA+-$.,B0/Z*CRD", 3)

    def test_leads_floating_rows_and_tails(self):
        self.compare("+-$,9", 6)

    def test_tails_of_letters(self):
        self.compare("9.$BCRD", 5)

    def test_places_and_broken_parts(self):
        self.compare("9Z*.,$", 5)

    def test_numbers(self):
        self.compare("S9V.", 6)


class RoomTest(unittest.TestCase):
    def test_numbers(self):
        for picture, told in (
            ("9", (False, 1, 0)), ("S9", (True, 1, 0)), ("9(3)V99", (False, 3, 2)), ("S9(3)V9(2)", (True, 3, 2)),
            ("V9", (False, 0, 1)), ("SV999", (True, 0, 3)), ("9(18)", (False, 18, 0)), ("SV9(18)", (True, 0, 18)),
        ):
            with self.subTest(picture=picture):
                self.assertEqual(room(picture), told)
                self.assertIs(room(picture)[0], told[0])

    def test_edited_figures(self):
        for picture, told in (
            ("Z", (False, 1, 0)), ("ZZ9", (False, 3, 0)), ("Z,ZZ9.99", (False, 4, 2)), ("ZZ.ZZ", (False, 2, 2)),
            ("**9.9", (False, 3, 1)), ("**.**", (False, 2, 2)), ("$9", (False, 1, 0)), ("$ZZ9", (False, 3, 0)),
            ("+9", (True, 1, 0)), ("-9", (True, 1, 0)), ("+$9", (True, 1, 0)), ("-$99", (True, 2, 0)),
            ("9+", (True, 1, 0)), ("9-", (True, 1, 0)), ("9CR", (True, 1, 0)), ("99.9DB", (True, 2, 1)),
            ("9,9", (False, 2, 0)), ("9B0/9", (False, 2, 0)), ("9000", (False, 1, 0)), ("9B", (False, 1, 0)),
        ):
            with self.subTest(picture=picture):
                self.assertEqual(room(picture), told)
                self.assertIs(room(picture)[0], told[0])

    def test_floating_rows(self):
        for picture, told in (
            ("$$", (False, 1, 0)), ("++", (True, 1, 0)), ("--", (True, 1, 0)), ("$$9", (False, 2, 0)),
            ("$,$$$.99", (False, 3, 2)), ("-(4)9.9", (True, 4, 1)), ("+$$9", (True, 2, 0)), ("$++9", (True, 2, 0)),
            ("$$9CR", (True, 2, 0)), ("$$-", (True, 1, 0)), ("$(19)", (False, 18, 0)), ("$B$", (False, 1, 0)),
        ):
            with self.subTest(picture=picture):
                self.assertEqual(room(picture), told)
                self.assertIs(room(picture)[0], told[0])

    def test_texts_and_letters_have_no_room(self):
        for picture in TEXTS + LETTERS:
            with self.subTest(picture=picture), self.assertRaises(NoRoom):
                room(picture)

    def test_no_picture(self):
        for text in NO_PICTURES:
            for told in (room, size_of):
                with self.subTest(text=text, told=told.__name__), self.assertRaises(NoPicture):
                    told(text)


class SizeTest(unittest.TestCase):
    def test_size_of(self):
        for picture, size in (
            ("9", 1), ("S9", 1), ("9V9", 2), ("S9(5)V99", 7), ("SV9", 1), ("S99999V9(2)", 7),
            ("X", 1), ("X(60)", 60), ("XXX", 3), ("A", 1), ("A(7)", 7), ("AAAAAAA", 7),
            ("Z,ZZ9.99", 8), ("+$9", 3), ("9CR", 3), ("99.9DB", 6), ("$(4)9", 5), ("$$$$9", 5), ("$$", 2), ("9B0/9", 5),
            ("9-", 2), ("-$Z(3),Z(3).Z(2)", 12), ("-$ZZZ,ZZZ.ZZ", 12), ("90(3)", 4),
        ):
            with self.subTest(picture=picture):
                self.assertEqual(size_of(picture), size)

    def test_all_symbols_but_two(self):
        for picture in ALL:
            with self.subTest(picture=picture):
                out = unfolded(picture)
                self.assertEqual(size_of(picture), len(out) - out.count("S") - out.count("V"))


if __name__ == "__main__":
    unittest.main()
