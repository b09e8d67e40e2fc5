"""Points 3.1 and 3.2, with 0.2 (c)."""

import itertools
import re
import unittest

from boxmoves.editing import edited, read_edited, texts_in_all
from boxmoves.errors import NoFigures, NoRoom
from boxmoves.pictures import is_picture, kind_of, room, size_of, unfolded

LONG = 10 ** 6000 + 7
# Nothing but pictures with few enough figures that all amounts that fit can be gone through.
SMALL = (
    "9,", "9B9", "90", "9/9", "9.9", "Z", "ZZ", "Z9", "Z,9", "Z,Z", "ZBZ", "Z0Z", "Z/Z9", "Z,", "Z,.9", "Z.9", "Z.Z",
    "Z9.9", "*", "**", "*9", "*,9", "*,*", "*B*", "*0*", "*/", "*.9", "*.*", "*9.9", "++", "--", "$$", "++9", "--9",
    "$$9", "+,+", "-B-", "$0$", "$/$9", "++,", "--,9", "$$,9", "++.9", "--.9", "$$.9", "$,$.9", "+9", "-9", "$9", "+$9",
    "-$9", "+Z", "-Z", "$Z", "+$Z", "-$Z9", "+*", "-*", "$*", "-$*.*", "+$$", "-$$9", "$++", "$--9", "9+", "9-", "9CR",
    "9DB", "Z+", "Z-", "ZCR", "ZDB", "*+", "*-", "*CR", "*DB", "$Z.ZDB", "$*.*CR", "$$+", "$$9-", "$$CR", "$$.9DB",
    "9BDB", "Z,B0/Z", "*,B0/*", "$,B0/$,B0/", "Z,B0/9", "$$B/09", "9,B0/9",
)
NO_EDITED = ("9", "99", "S9", "9V9", "SV9", "9(18)", "X", "X(60)", "A", "AAA")
SIGNS = " 0123456789*+-$,/.CRDBxZ~"

PARTS = re.compile(
    r"(?P<lead>[+-]??\$??)"
    r"(?P<whole>[9Z*][9Z*,B0/]*|(?P<float>[+$-])[,B0/]*(?P=float)(?:(?P=float)|[,B0/9])*)"
    r"(?P<broken>\.[9Z*]+)?"
    r"(?P<tail>CR|DB|[+-])?"
)


def amounts_that_fit(picture):
    signed, before, behind = room(picture)
    most = 10 ** (before + behind)
    return [(units, behind) for units in range(1 - most, most)]


def by_the_rules(picture, amount):
    """What editing brings, written down once more, rule after rule."""
    found = PARTS.fullmatch(unfolded(picture))
    lead, whole, broken, tail = (found[part] or "" for part in ("lead", "whole", "broken", "tail"))
    figure_places = [at for at, symbol in enumerate(whole) if symbol not in ",B0/"]
    if found["float"]:
        figure_places = figure_places[1:]
    before, behind = len(figure_places), max(len(broken) - 1, 0)
    digits = f"{abs(amount[0]):040d}"
    point = len(digits) - amount[1]
    head = digits[:point][-before:] if before else ""
    rest = (digits[point:] + "0" * behind)[:behind]
    is_below = amount[0] < 0 and (head + rest).strip("0") != ""
    first = found["float"] or whole[0]
    if "9" not in whole + broken and not found["float"] and not (head + rest).strip("0"):
        return re.sub("[^.]", "*", unfolded(picture)) if first == "*" else " " * len(unfolded(picture))

    signs = dict(zip(figure_places, head))
    stops = [at for at in range(len(whole)) if whole[at] == "9" or signs.get(at, "0") != "0"]
    stop = min(stops, default=len(whole))
    told = []
    for at, symbol in enumerate(whole):
        if at < stop:
            told.append("*" if first == "*" else " ")
        else:
            told.append(signs.get(at, " " if symbol == "B" else symbol))
    plus, minus = ("-", "-") if is_below else ("+", " ")
    if found["float"]:
        told[stop - 1] = {"$": "$", "+": plus, "-": minus}[first]
    if tail in ("CR", "DB") and not is_below:
        tail = "  "
    ends = str.maketrans({"+": plus, "-": minus})
    return lead.translate(ends) + "".join(told) + broken[:1] + rest + tail.translate(ends)


class EditedTest(unittest.TestCase):
    def check(self, *rows):
        for picture, amount, text in rows:
            with self.subTest(picture=picture, amount=amount):
                self.assertEqual(edited(picture, amount), text)
                self.assertEqual(len(text), size_of(picture))

    def test_places_of_9(self):
        self.check(
            ("9,9", (5, 0), "0,5"), ("9,9", (12, 0), "1,2"), ("9,9", (0, 0), "0,0"), ("9.9", (15, 1), "1.5"),
            ("9.99", (0, 0), "0.00"), ("99/99/9999", (31122024, 0), "31/12/2024"), ("99/99", (102, 0), "01/02"),
        )

    def test_places_of_z(self):
        self.check(
            ("ZZ9", (5, 0), "  5"), ("ZZ9", (0, 0), "  0"), ("ZZ9", (50, 0), " 50"), ("ZZ9", (105, 0), "105"),
            ("ZZZ", (7, 0), "  7"), ("ZZZ", (70, 0), " 70"), ("ZZZ", (700, 0), "700"), ("Z99", (0, 0), " 00"),
            ("Z,ZZ9.99", (0, 0), "    0.00"), ("Z,ZZ9.99", (123456, 2), "1,234.56"), ("Z,ZZ9.99", (1234, 2),
            "   12.34"),
            ("ZZ.ZZ", (5, 2), "  .05"), ("ZZ.ZZ", (50, 2), "  .50"), ("ZZ.ZZ", (1005, 2), "10.05"), ("Z.99", (0, 0),
            " .00"),
            ("ZZ.99", (305, 2), " 3.05"), ("Z(3)9", (42, 0), "  42"),
        )

    def test_places_of_star(self):
        self.check(
            ("**9", (5, 0), "**5"), ("**9", (0, 0), "**0"), ("***", (50, 0), "*50"), ("*99", (0, 0), "*00"),
            ("*,***.99", (150, 2), "****1.50"), ("*,***.99", (123456, 2), "1,234.56"), ("*,***.99", (0, 2), "*****.00"),
            ("***.**", (5, 2), "***.05"), ("***.**", (1230, 2), "*12.30"), ("*.99", (0, 0), "*.00"),
        )

    def test_floating_dollar(self):
        self.check(
            ("$$$9", (5, 0), "  $5"), ("$$$9", (0, 0), "  $0"), ("$$$9", (12, 0), " $12"), ("$$$9", (123, 0), "$123"),
            ("$$$", (0, 0), "  $"), ("$$$", (5, 0), " $5"), ("$$$", (50, 0), "$50"), ("$$$9", (-5, 0), "  $5"),
            ("$$,$$9.99", (500, 2), "    $5.00"), ("$$,$$9.99", (123450, 2), "$1,234.50"), ("$$.99", (5, 2), " $.05"),
            ("$$.99", (0, 0), " $.00"), ("$$.99", (305, 2), "$3.05"),
        )

    def test_floating_plus_and_minus(self):
        self.check(
            ("++9", (5, 0), " +5"), ("++9", (-5, 0), " -5"), ("++9", (0, 0), " +0"), ("++9", (-15, 0), "-15"),
            ("+++", (0, 0), "  +"), ("+++", (-1, 0), " -1"), ("+++", (10, 0), "+10"),
            ("--9", (5, 0), "  5"), ("--9", (-5, 0), " -5"), ("--9", (0, 0), "  0"), ("--9", (-15, 0), "-15"),
            ("---", (0, 0), "   "), ("---", (-1, 0), " -1"), ("---", (10, 0), " 10"), ("---", (-10, 0), "-10"),
            ("--.99", (-5, 2), " -.05"), ("--.99", (5, 2), "  .05"), ("++.99", (0, 0), " +.00"),
            ("--,---.99", (-123456, 2), "-1,234.56"), ("--,---.99", (-5, 2), "     -.05"),
        )

    def test_where_the_sign_of_a_floating_row_stands(self):
        # In the row, at an inserted sign of it, and at one behind it.
        self.check(
            ("$$,$$9", (1234, 0), "$1,234"), ("$$,$$9", (234, 0), "  $234"), ("$$,$$9", (34, 0), "   $34"),
            ("$,$9", (15, 0), " $15"), ("$,$9", (5, 0), "  $5"), ("$$,99", (5, 0), "  $05"), ("$$,99", (105, 0),
            "$1,05"),
            ("++,", (0, 0), "  +"), ("++,", (5, 0), "+5,"), ("--/", (-5, 0), "-5/"), ("--B09", (-5, 0), "   -5"),
            ("$$,.9", (5, 1), "  $.5"), ("$$,.9", (15, 1), "$1,.5"), ("+B+", (0, 0), "  +"), ("+B+", (-5, 0), " -5"),
        )

    def test_inserted_signs(self):
        self.check(
            ("9,9", (12, 0), "1,2"), ("9B9", (12, 0), "1 2"), ("909", (12, 0), "102"), ("9/9", (12, 0), "1/2"),
            ("Z,Z", (12, 0), "1,2"), ("ZBZ", (12, 0), "1 2"), ("Z0Z", (12, 0), "102"), ("Z/Z", (12, 0), "1/2"),
            ("Z,Z", (2, 0), "  2"), ("ZBZ", (2, 0), "  2"), ("Z0Z", (2, 0), "  2"), ("Z/Z", (2, 0), "  2"),
            ("*,*", (12, 0), "1,2"), ("*B*", (12, 0), "1 2"), ("*0*", (12, 0), "102"), ("*/*", (12, 0), "1/2"),
            ("*,*", (2, 0), "**2"), ("*B*", (2, 0), "**2"), ("*0*", (2, 0), "**2"), ("*/*", (2, 0), "**2"),
            ("9B", (1, 0), "1 "), ("90", (1, 0), "10"), ("Z,", (1, 0), "1,"), ("9B0/", (0, 0), "0 0/"),
            ("ZZZ,ZZZ", (1000, 0), "  1,000"), ("ZZZ,ZZZ", (999, 0), "    999"),
        )

    def test_inserted_signs_right_ahead_of_what_ends_the_blanks(self):
        self.check(
            # Of a figure that is not 0,
            ("Z,BZ9", (15, 0), "   15"), ("*/0*9", (15, 0), "***15"),
            # of a place of 9,
            ("Z,9", (5, 0), "  5"), ("Z,999", (5, 0), "  005"), ("Z,999", (1005, 0), "1,005"), ("*,9", (5, 0), "**5"),
            ("Z09", (5, 0), "  5"), ("Z09", (15, 0), "105"), ("Z9,9", (5, 0), " 0,5"),
            # of the point.
            ("Z,.99", (5, 2), "  .05"), ("Z,.99", (505, 2), "5,.05"), ("*/.*", (5, 1), "**.5"), ("ZB0.Z", (5, 1),
            "   .5"),
        )

    def test_leads(self):
        self.check(
            ("+ZZ9", (5, 0), "+  5"), ("+ZZ9", (-5, 0), "-  5"), ("+ZZ9", (0, 0), "+  0"), ("+9", (-1, 0), "-1"),
            ("-ZZ9", (5, 0), "   5"), ("-ZZ9", (-5, 0), "-  5"), ("-ZZ9", (0, 0), "   0"), ("-9", (1, 0), " 1"),
            ("$ZZ9", (5, 0), "$  5"), ("$ZZ9", (-5, 0), "$  5"), ("$ZZ9", (0, 0), "$  0"), ("$9", (-1, 0), "$1"),
            ("+$ZZ9", (5, 0), "+$  5"), ("+$ZZ9", (-5, 0), "-$  5"), ("+$ZZ9", (0, 0), "+$  0"),
            ("-$ZZ9", (5, 0), " $  5"), ("-$ZZ9", (-5, 0), "-$  5"), ("-$ZZ9", (0, 0), " $  0"),
            ("+**9", (-5, 0), "-**5"), ("$**9", (5, 0), "$**5"), ("+$$9", (-5, 0), "- $5"), ("-$$9", (5, 0), "  $5"),
            ("$++9", (5, 0), "$ +5"), ("$--9", (-5, 0), "$ -5"), ("$--9", (5, 0), "$  5"), ("+Z.9", (0, 0), "+ .0"),
        )

    def test_tails(self):
        self.check(
            ("ZZ9+", (5, 0), "  5+"), ("ZZ9+", (-5, 0), "  5-"), ("ZZ9+", (0, 0), "  0+"),
            ("ZZ9-", (5, 0), "  5 "), ("ZZ9-", (-5, 0), "  5-"), ("ZZ9-", (0, 0), "  0 "),
            ("ZZ9CR", (5, 0), "  5  "), ("ZZ9CR", (-5, 0), "  5CR"), ("ZZ9CR", (0, 0), "  0  "),
            ("ZZ9DB", (5, 0), "  5  "), ("ZZ9DB", (-5, 0), "  5DB"), ("ZZ9DB", (0, 0), "  0  "),
            ("$Z9.9-", (-15, 1), "$ 1.5-"), ("$$9CR", (-5, 0), " $5CR"), ("$$+", (0, 0), " $+"), ("9BDB", (-5, 0),
            "5 DB"),
            ("Z.ZDB", (-5, 1), " .5DB"), ("**+", (-5, 0), "*5-"),
        )

    def test_more_figures_than_room(self):
        self.check(
            ("Z9", (12345, 0), "45"), ("Z9", (-12345, 0), "45"), ("Z9", (100, 0), " 0"), ("Z9", (1005, 0), " 5"),
            ("Z9", (129, 1), "12"), ("Z9.9", (1239, 2), "12.3"), ("Z9.9", (-1239, 2), "12.3"), ("9.9", (98765, 3),
            "8.7"),
            ("$$$9", (1234, 0), "$234"), ("++", (99, 0), "+9"), ("++", (-90, 0), " +"), ("-9", (-19, 1), "-1"),
            ("9.999", (15, 1), "1.500"), ("ZZ.99", (7, 0), " 7.00"), ("Z9", (LONG, 0), " 7"), ("Z9", (999, 2), " 9"),
            ("Z9-", (-LONG, 0), " 7-"), ("9.9", (10 ** 18 - 1, 18), "0.9"),
        )

    def test_below_0_of_which_noughts_stay(self):
        self.check(
            ("+9.9", (-5, 2), "+0.0"), ("-9", (-10, 0), " 0"), ("9CR", (-10, 0), "0  "), ("9DB", (-1, 1), "0  "),
            ("9+", (-100, 0), "0+"), ("9-", (-1, 18), "0 "), ("++9", (-1000, 0), " +0"), ("--", (-10, 0), "  "),
            ("+$9", (-1, 1), "+$0"), ("ZCR", (-10, 0), "   "), ("*-", (-10, 0), "**"),
        )

    def test_all_hidden(self):
        self.check(
            ("Z", (0, 0), " "), ("ZZZ", (0, 0), "   "), ("Z,ZZZ.ZZ", (0, 0), "        "), ("+Z", (0, 0), "  "),
            ("$Z", (0, 0), "  "), ("+$ZZ", (0, 0), "    "), ("Z+", (0, 0), "  "), ("Z0/", (0, 0), "   "),
            ("Z.ZCR", (0, 0), "     "),
            ("*", (0, 0), "*"), ("***", (0, 0), "***"), ("*,***.**", (0, 0), "*****.**"), ("+*", (0, 0), "**"),
            ("$*", (0, 0), "**"), ("-$**", (0, 0), "****"), ("*+", (0, 0), "**"), ("*B0/", (0, 0), "****"),
            ("$*.*CR", (0, 0), "**.***"), ("*.*DB", (1, 2), "*.***"), ("ZZ", (100, 0), "  "), ("Z.Z", (1, 2), "   "),
            # A floating row shows its sign still, and a place of 9 its nought.
            ("$$", (0, 0), " $"), ("++", (0, 0), " +"), ("--", (0, 0), "  "), ("$$,", (0, 0), "  $"), ("$--", (0, 0),
            "$  "),
            ("Z.9", (0, 0), " .0"), ("*.9", (0, 0), "*.0"), ("$Z9", (0, 0), "$ 0"), ("*9CR", (0, 0), "*0  "),
        )

    def test_against_the_rules(self):
        for picture in SMALL:
            signed, before, behind = room(picture)
            for units, places in amounts_that_fit(picture) + [(-12345, 2), (10203, 1), (-1000, 0), (-1, 18), (5, 3)]:
                told = edited(picture, (units, places))
                self.assertEqual(told, by_the_rules(picture, (units, places)), (picture, units, places))
                self.assertEqual(len(told), size_of(picture))

    def compare(self, symbols, most):
        sizes = (0, 5, 50, 505, 1234, 10203)
        amounts = [(sign * units, places) for units in sizes for sign in (1, -1) for places in (0, 2)]
        for many in range(1, most + 1):
            for row in itertools.product(symbols, repeat=many):
                picture = "".join(row)
                if is_picture(picture) and kind_of(picture) == "edited":
                    for amount in amounts:
                        told = edited(picture, amount)
                        self.assertEqual(told, by_the_rules(picture, amount), (picture, amount))
                        units, places = read_edited(picture, told)
                        self.assertEqual(edited(picture, (units, places)), told, (picture, amount))

    def test_all_short_pictures(self):
        self.compare("9Z*+-$,B0/.CRD", 3)

    def test_pictures_of_few_symbols(self):
        self.compare("9Z$,.", 5)
        self.compare("+-$B9", 5)

    def test_the_longest_pictures(self):
        self.check(
            ("Z(17)9", (10 ** 18 - 1, 0), "9" * 18), ("$(19)", (10 ** 18 - 1, 0), "$" + "9" * 18),
            ("+9(18)", (-10 ** 17, 0), "-1" + "0" * 17), ("Z(9).Z(9)", (1, 9), " " * 9 + ".000000001"),
            ("9B(100)9", (12, 0), "1" + " " * 100 + "2"),
        )


class ReadTest(unittest.TestCase):
    def test_ordinary(self):
        for picture, text, amount in (
            ("Z,ZZ9.99", "1,234.56", (123456, 2)), ("Z,ZZ9.99", "    0.00", (0, 2)), ("ZZ9", "  5", (5, 0)),
            ("$$,$$9.99CR", "    $5.00CR", (-500, 2)), ("$$,$$9.99CR", "    $5.00  ", (500, 2)),
            ("--9", " -5", (-5, 0)),
            ("ZZ.ZZ", "     ", (0, 2)), ("**.**", "**.**", (0, 2)), ("+$9", "-$7", (-7, 0)), ("Z09", "105", (15, 0)),
            ("Z09", "  5", (5, 0)), ("99/99/9999", "31/12/2024", (31122024, 0)), ("$$,99", "  $05", (5, 0)),
            ("Z(17)9", "9" * 18, (10 ** 18 - 1, 0)),
        ):
            with self.subTest(picture=picture, text=text):
                self.assertEqual(read_edited(picture, text), amount)

    def test_what_was_edited_is_read_back(self):
        for picture in SMALL:
            signed, before, behind = room(picture)
            for units, places in amounts_that_fit(picture):
                told = read_edited(picture, edited(picture, (units, places)))
                # Of two that edit alike the one not below 0 is told.
                self.assertEqual(told, (units if signed else abs(units), behind), (picture, units))

    def test_cut_amounts_are_read_back_cut(self):
        self.assertEqual(read_edited("Z9.9", edited("Z9.9", (-123456, 3))), (234, 1))
        self.assertEqual(read_edited("-99", edited("-99", (-12399, 2))), (-23, 0))

    def test_texts_that_no_amount_brings(self):
        for picture, text in (
            ("ZZ9", ""), ("ZZ9", " 5"), ("ZZ9", "   5"), ("ZZ9", "  5 "), ("ZZ9", "   "), ("ZZ9", "005"),
            ("ZZ9", " 05"),
            ("ZZ9", "5 5"), ("ZZ9", "  x"), ("ZZ9", "**5"), ("ZZ9", "- 5"), ("ZZ9", "5  "), ("ZZ9", "  \u0665"),
            ("ZZZ", "  0"), ("Z.Z", " .0"), ("Z.Z", "0.5"), ("Z.Z", " . "), ("Z.9", "   "), ("*.*", "*.0"),
            ("*.*", "****"),
            ("**9", "  5"), ("**9", "*05"), ("**9", "***"), ("*9", "0*"),
            ("9.9", "1,5"), ("9.9", "15"), ("9.9", "1 5"), ("9.9", ".15"), ("9,9", "1.2"), ("9B9", "1B2"),
            ("9B9", "1,2"),
            ("909", "112"), ("909", "1 2"), ("Z,ZZ9", " ,  5"), ("Z,ZZ9", "1 234"), ("Z,ZZ9", " ,234"), ("Z09", " 05"),
            ("+9", " 5"), ("+9", "5+"), ("+9", "-0"), ("+9", "+ "), ("-9", "+5"), ("-9", "-0"), ("$9", " 5"),
            ("$9", "-5"),
            ("9+", "0-"), ("9+", "5 "), ("9-", "5+"), ("9-", "0-"), ("9CR", "5DB"), ("9CR", "5C "), ("9CR", "0CR"),
            ("9CR", "5cr"),
            ("9DB", "5CR"), ("9DB", "0DB"), ("9DB", "5"), ("ZCR", " CR"), ("+Z", "+ "), ("$Z", "$ "), ("$*", "$*"),
            ("$$9", "$ 5"), ("$$9", "$05"), ("$$9", "  5"), ("$$9", "105"), ("$$9", " 15"), ("$$9", "$$5"),
            ("$$", "  "),
            ("++9", " +"), ("++9", "+ 5"), ("++9", "  5"), ("++9", " -0"), ("--9", "- 5"), ("--9", " +5"),
            ("--9", " -0"),
            ("--", "--"), ("--", " -"), ("$$,99", " $ 05"), ("$$,99", "$0,05"), ("+$9", "$+5"), ("+$9", "+ 5"),
            ("$++", "$  "),
        ):
            with self.subTest(picture=picture, text=text), self.assertRaises(NoFigures):
                read_edited(picture, text)

    def test_texts_with_another_sign_at_each_place(self):
        for picture in SMALL:
            signed, before, behind = room(picture)
            known = {}
            for units, places in amounts_that_fit(picture):
                text = edited(picture, (units, places))
                known[text] = (units if signed else abs(units), behind)
            for text in list(known)[::7]:
                for at in range(len(text)):
                    for sign in SIGNS:
                        self.compare(picture, text[:at] + sign + text[at + 1:], known)
                for near in (text[1:], text[:-1], text + " ", " " + text, text + "0", text[::-1], text.strip()):
                    self.compare(picture, near, known)

    def compare(self, picture, text, known):
        try:
            told = read_edited(picture, text)
        except NoFigures:
            told = None
        if told != known.get(text):
            self.fail(f"{picture} {text!r}: {told}, not {known.get(text)}")


class TextsTest(unittest.TestCase):
    def test_told(self):
        for picture, many in (
            ("Z", 10), ("ZZ9", 1000), ("$$9", 100), ("$9", 10), ("9,9", 100), ("Z,ZZ9.99", 10 ** 6), ("**.**", 10 ** 4),
            ("+9", 19), ("-9", 19), ("9+", 19), ("9-", 19), ("9CR", 19), ("9DB", 19), ("+Z", 19), ("*-", 19),
            ("++", 19),
            ("--9", 199), ("+$9", 19), ("$++", 19), ("+$$", 19), ("$$9CR", 199), ("$$.99DB", 1999),
            ("Z(18)", 10 ** 18), ("+9(18)", 2 * 10 ** 18 - 1), ("$(19)", 10 ** 18), ("-(19)", 2 * 10 ** 18 - 1),
            ("9B(1000000000000000)9", 100),
        ):
            with self.subTest(picture=picture):
                self.assertEqual(texts_in_all(picture), many)

    def test_against_all_amounts_that_fit(self):
        for picture in SMALL:
            with self.subTest(picture=picture):
                texts = {edited(picture, amount) for amount in amounts_that_fit(picture)}
                self.assertEqual(texts_in_all(picture), len(texts))

    def test_which_amounts_edit_alike(self):
        for picture in SMALL:
            signed = room(picture)[0]
            alike = {}
            for units, places in amounts_that_fit(picture):
                alike.setdefault(edited(picture, (units, places)), []).append(units)
            for units in alike.values():
                self.assertEqual(len({abs(number) for number in units}), 1, picture)
                self.assertEqual(len(units), 1 if signed or units == [0] else 2, picture)


class RoomTest(unittest.TestCase):
    def test_pictures_that_are_none_of_edited_figures(self):
        for picture in NO_EDITED + ("", "Q", "9V", "Z9Z"):
            with self.subTest(picture=picture):
                for amount in ((0, 0), (-5, 1), (12345, 0)):
                    with self.assertRaises(NoRoom):
                        edited(picture, amount)
                for text in ("", "5", "05", "xx", " "):
                    with self.assertRaises(NoRoom):
                        read_edited(picture, text)
                with self.assertRaises(NoRoom):
                    texts_in_all(picture)


if __name__ == "__main__":
    unittest.main()
