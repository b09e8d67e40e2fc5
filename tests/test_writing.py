"""Point 7.1, with 0.2 (h)."""

import re
import unittest

from boxmoves.errors import NoText
from boxmoves.layouts import is_layout
from boxmoves.reports import report
from boxmoves.writing import layout_text, page_text, read_layout

ORDER = (
    ("box", "number", "9(5)"),
    ("group", "date", (("box", "year", "9999"), ("box", "month", "99"), ("over", ("box", "sign", "X")))),
    ("over", ("box", "plain", "X(6)")),
    ("over", ("group", "short", (("box", "first", "A"), ("group", "rest", (("box", "second", "A"),))))),
    ("table", "prices", 12, (("box", "cents", "S9(3)V99"), ("table", "tax", 1, (("box", "rate", "V99"),)))),
    ("over", ("table", "signs", 30, (("box", "sign", "XX"),))),
    ("box", "total", "+$**,**9.99"),
)
ORDER_TEXT = """box number 9(5)
group date
  box year 9999
  box month 99
  over box sign X
over box plain X(6)
over group short
  box first A
  group rest
    box second A
table prices 12
  box cents S9(3)V99
  table tax 1
    box rate V99
over table signs 30
  box sign XX
box total +$**,**9.99
"""
LAYOUTS = (
    ((("box", "a", "9"),), "box a 9\n"),
    ((("box", "a", "9(1)"), ("box", "b", "X(60)")), "box a 9(1)\nbox b X(60)\n"),
    ((("group", "a", (("box", "a", "9"),)),), "group a\n  box a 9\n"),
    ((("table", "t", 30, (("box", "a", "ZZ9BCR"),)),), "table t 30\n  box a ZZ9BCR\n"),
    ((("box", "box", "9"), ("over", ("box", "over", "9")), ("group", "group", (("box", "table", "9"),))),
     "box box 9\nover box over 9\ngroup group\n  box table 9\n"),
    ((("group", "a", (("group", "b", (("group", "c", (("box", "d", "9"),)), ("box", "e", "9"))),)), ("box", "f", "9")),
     "group a\n  group b\n    group c\n      box d 9\n    box e 9\nbox f 9\n"),
    (ORDER, ORDER_TEXT),
)


def deep(many):
    layout = (("box", "a", "9"),)
    for turn in range(many):
        layout = (("group", "b", layout), ("box", "c", "9"))
    return layout


def strict_reading(text):
    """The layout of a writing, None if there is none: written apart from the program, by patterns and calls."""
    if not re.fullmatch(r"((  )*(over )?(box [a-z]{1,12} [^ \n]+|group [a-z]{1,12}|table [a-z]{1,12} [1-9][0-9]?)\n)+", text):
        return None
    lines = [(len(line) - len(line.lstrip(" ")), line.split()) for line in text.splitlines()]
    layout, end = strict_items(lines, 0, 0)
    return layout if end == len(lines) and is_layout(layout) else None


def strict_items(lines, at, blanks):
    items = []
    while at < len(lines) and lines[at][0] == blanks:
        words = list(lines[at][1])
        over = words[0] == "over"
        words = tuple(words[1:] if over else words)
        at += 1
        if words[0] != "box":
            inner, at = strict_items(lines, at, blanks + 2)
            words = words[:2] + tuple(int(word) for word in words[2:]) + (inner,)
        items.append(("over", words) if over else words)
    return tuple(items), at


class LayoutTextTest(unittest.TestCase):
    def test_written(self):
        for layout, text in LAYOUTS:
            with self.subTest(text=text):
                self.assertTrue(is_layout(layout))
                self.assertEqual(layout_text(layout), text)

    def test_read_back(self):
        for layout, text in LAYOUTS:
            with self.subTest(text=text):
                self.assertEqual(read_layout(text), layout)
                self.assertEqual(layout_text(read_layout(text)), text)

    def test_pictures_stay_as_they_are_written(self):
        for picture in ("9999999", "9(7)", "9(3)99V9(1)9", "Z(5)", "ZZZZZ", "$$,$$9.99CR", "+$Z(3),Z(3).Z(2)", "9/9/0B0-"):
            layout = (("box", "a", picture),)
            self.assertEqual(layout_text(layout), f"box a {picture}\n")
            self.assertEqual(read_layout(f"box a {picture}\n"), layout)

    def test_groups_as_deep_as_one_likes(self):
        layout = deep(600)
        text = layout_text(layout)
        self.assertEqual(text.splitlines()[600], "  " * 600 + "box a 9")
        # Tuples so deep are better not held against one another.
        self.assertEqual(layout_text(read_layout(text)), text)


class ReadLayoutTest(unittest.TestCase):
    def refuse(self, *texts):
        for text in texts:
            with self.subTest(text=text), self.assertRaises(NoText):
                read_layout(text)

    def test_line_feeds(self):
        self.refuse(
            "", "\n", "\n\n", "box a 9", "box a 9\n\n", "\nbox a 9\n", "box a 9\n\nbox b 9\n", "box a 9\nbox b 9",
            "box a 9box b 9\n", "box a 9\r\n", "box a 9\r", "box a 9\n ", "box a 9\n  ", "group a\n\n  box b 9\n",
            "group a\n  box b 9", "box\na 9\n", "box a\n9\n", "box a 9\x0b", "box a 9\x0cbox b 9\n", "box a 9\n  \n",
        )

    def test_blanks(self):
        self.refuse(
            " box a 9\n", "  box a 9\n", "box  a 9\n", "box a  9\n", "box a 9 \n", "boxa 9\n", "box a9\n", "box\ta 9\n",
            "box a\t9\n", "\tbox a 9\n", "group a \n  box b 9\n", "group  a\n  box b 9\n", "table a 2 \n  box b 9\n",
            "table a  2\n  box b 9\n", "box a 9\nover  box b 9\n", "box a 9\n over box b 9\n", "box a 9\noverbox b 9\n",
            "box a 9\nover box b 9 \n", " \nbox a 9\n", "group a\n  box b 9\n ",
        )

    def test_depths(self):
        self.refuse(
            "group a\nbox b 9\n", "group a\n box b 9\n", "group a\n   box b 9\n", "group a\n    box b 9\n",
            "group a\n  box b 9\n   box c 9\n", "group a\n  box b 9\n    box c 9\n", "group a\n  box b 9\n box c 9\n",
            "box a 9\n  box b 9\n", "box a 9\n    box b 9\n", "group a\n  group b\n  box c 9\n",
            "group a\n  group b\n      box c 9\n", "  group a\n    box b 9\n", "table t 2\nbox b 9\n",
            "table t 2\n    box b 9\n", "group a\n  box b 9\ngroup c\n", "group a\n",
            "table t 2\n", "group a\n  group b\n", "box a 9\n  over box b 9\n", "group a\n  box b 9\n  over group c\n",
        )

    def test_words(self):
        self.refuse(
            "Box a 9\n", "boxes a 9\n", "field a 9\n", "a 9\n", "9\n", "box\n", "box a\n", "box 9\n", "box a 9 9\n",
            "box a b 9\n", "group\n  box b 9\n", "group a b\n  box b 9\n", "group a 2\n  box b 9\n", "groups a\n  box b 9\n",
            "GROUP a\n  box b 9\n", "table\n  box b 9\n", "table a\n  box b 9\n", "table 2\n  box b 9\n",
            "table 2 a\n  box b 9\n", "table a 2 3\n  box b 9\n", "over\n", "box a 9\nover\n", "box a 9\nover box\n",
            "box a 9\nover b 9\n", "box a 9\nover over box b 9\n", "box a 9\nOver box b 9\n", "box a 9\nover box b 9 over\n",
            "box over 9\nover\n", "box a 9\nover group\n  box b 9\n", "layout a\n", "over over\n", "box a 9\nover over\n",
        )

    def test_names(self):
        for name in ("", "A", "aB", "a1", "1", "a_b", "a-b", "abcdefghijklm", "\u00e9", "a,b", "(a)", "'a'", "a\u00a0b"):
            self.refuse(
                f"box {name} 9\n", f"group {name}\n  box b 9\n", f"table {name} 2\n  box b 9\n", f"group a\n  box {name} 9\n",
                f"box a 9\nover box {name} 9\n",
            )

    def test_numbers(self):
        for times in ("0", "00", "01", "02", "030", "31", "100", "-1", "+2", "2.0", "2.", "x", "two", "1_0", "(2)", "\u0662",
                      "\u00b2", "9" * 5000, "0x2", "2e0", "", "None", "True"):
            self.refuse(f"table a {times}\n  box b 9\n", f"box a XX\nover table b {times}\n  box c X\n")
        for times in range(1, 31):
            self.assertEqual(read_layout(f"table a {times}\n  box b 9\n"), (("table", "a", times, (("box", "b", "9"),)),))

    def test_pictures(self):
        for picture in ("", "Q", "x", "9V", "9(0)", "9()", "9(01)", "9(19)", "X(61)", "99X", "S", "V", "9.9.9", "$", "Z9Z", "(9)"):
            self.refuse(f"box a {picture}\n", f"group b\n  box a {picture}\n", f"box b X\nover box a {picture}\n")

    def test_items_that_are_no_layout(self):
        self.refuse(
            "box a 9\nbox a 9\n", "box a 9\nover box a 9\n", "over box a 9\n", "over box a 9\nbox b 9\n",
            "box a 9\nover box b 99\n", "box a 9\ngroup a\n  box b 9\n", "group a\n  over box b 9\n",
            "group a\n  box b 9\n  box b X\n", "box a 99\nover table t 3\n  box b 9\n", "box a 9\nover group g\n  box b XX\n",
            "over group a\n  box b 9\n", "group a\n  box b 9\nover box c 99\n", "table t 2\n  box b 9\nover box c XXX\n",
        )

    def test_all_texts_that_are_near(self):
        # A sign left out, put in, put in place of another, a line left out, doubled or set deeper.
        for layout, text in LAYOUTS:
            near = {text[:at] + text[at + 1:] for at in range(len(text))}
            for sign in (" ", "\n", "a", "9", "X", "0", "1", "3", "(", "-"):
                near |= {text[:at] + sign + text[at:] for at in range(len(text) + 1)}
                near |= {text[:at] + sign + text[at + 1:] for at in range(len(text))}
            lines = text.splitlines(keepends=True)
            for at, line in enumerate(lines):
                for others in ([], [line, line], ["  " + line], [line[2:]], ["over " + line], [line.replace("over ", "")]):
                    near.add("".join(lines[:at] + others + lines[at + 1:]))
            told = [self.check_near(other) for other in sorted(near)]
            self.assertIn(True, told)
            self.assertIn(False, told)

    def check_near(self, text):
        layout = strict_reading(text)
        if layout is None:
            self.refuse(text)
        else:
            self.assertEqual(read_layout(text), layout, text)
            self.assertEqual(layout_text(layout), text)
        return layout is None

    def test_all_rows_of_some_words(self):
        words = ("box a 9\n", "group b\n", "  ", "over ", "box c 99\n", "table d 2\n", "  box e X\n")
        rows = [""]
        read = 0
        for turn in range(5):
            rows = [row + word for row in rows for word in words]
            for row in rows:
                read += not self.check_near(row)
        self.assertGreater(read, 100)


class PageTextTest(unittest.TestCase):
    PLAN = (("town", "shop", "many", "cents"), ("town", "shop"), ("many", "cents"), 6)

    def check(self, plan, page, text):
        with self.subTest(text=text):
            self.assertEqual(page_text(plan, page), text)

    def test_each_line(self):
        for line, text in (
            (("head", 1), "page 1\n"), (("head", 120), "page 120\n"), (("brought", ((5, 0), (-15, 1))), "brought 5 -1.5\n"),
            (("row", ("Ulm", "a b", (5, 0), (5, 2))), "row Ulm a b 5 0.05\n"),
            (("row", (None, None, (-5, 0), (0, 3))), "row . . -5 0.000\n"),
            (("row", ((15, 1), "", (5, 0), (5, 2))), "row 1.5  5 0.05\n"),
            (("row", ("", "", (5, 0), (5, 2))), "row   5 0.05\n"),
            (("foot", "town", ("Ulm",), ((5, 0), (5, 2))), "foot town Ulm: 5 0.05\n"),
            (("foot", "shop", ("Ulm", "a b"), ((5, 0), (-5, 2))), "foot shop Ulm a b: 5 -0.05\n"),
            (("foot", "shop", ((-5, 1), (10, 0)), ((5, 0), (5, 2))), "foot shop -0.5 10: 5 0.05\n"),
            (("foot", "town", ("",), ((5, 0), (5, 2))), "foot town : 5 0.05\n"),
            (("final", ((10 ** 30, 0), (0, 0))), "total 1" + "0" * 30 + " 0\n"),
            (("carried", ((5, 0), (-15, 1))), "carried 5 -1.5\n"),
        ):
            self.check(self.PLAN, (line,), text)

    def test_no_sums(self):
        plan = (("town", "shop"), ("town",), (), 6)
        for line, text in (
            (("final", ()), "total\n"), (("foot", "town", ("Ulm",), ()), "foot town Ulm:\n"),
            (("row", (None, ".")), "row . .\n"),
        ):
            self.check(plan, (line,), text)

    def test_pages_of_a_report(self):
        rows = (
            ("Ulm", "a", (1, 0), (250, 2)), ("Ulm", "a", (2, 0), (-5, 1)), ("Ulm", (15, 1), (3, 0), (1, 0)),
            ("Bonn", "b", (4, 0), (125, 3)),
        )
        texts = [page_text(self.PLAN, page) for page in report(self.PLAN, rows)]
        self.assertEqual(texts, [
            "page 1\nrow Ulm a 1 2.50\nrow . . 2 -0.5\nfoot shop Ulm a: 3 2.00\nrow Ulm 1.5 3 1\ncarried 6 3.00\n",
            "page 2\nbrought 6 3.00\nfoot shop Ulm 1.5: 3 1\nfoot town Ulm: 6 3.00\nrow Bonn b 4 0.125\ncarried 10 3.125\n",
            "page 3\nbrought 10 3.125\nfoot shop Bonn b: 4 0.125\nfoot town Bonn: 4 0.125\ntotal 10 3.125\n",
        ])

    def test_no_line(self):
        self.check(self.PLAN, (), "")


if __name__ == "__main__":
    unittest.main()
