"""Point 6.4, with 0.2 (g)."""

import itertools
import unittest

from boxmoves.amounts import added
from boxmoves.reports import breaks, report

PLAIN = (("name", "note"), ("name",), (), 6)
SUMMED = (("name", "many"), ("name",), ("many",), 6)
TWO = (("a", "x", "b", "y"), ("b", "a"), ("y", "x"), 6)


def plain_rows(names):
    return tuple((name, str(at)) for at, name in enumerate(names))


def summed_rows(names):
    return tuple((name, (at + 1, 0)) for at, name in enumerate(names))


def short(page):
    """A page's lines as a text: of rows the name, of feet the name in brackets."""
    signs = {"head": "H", "brought": "<", "carried": ">", "final": "="}
    return "".join(
        (line[1][0] or ".") if line[0] == "row" else f"({line[2][0]})" if line[0] == "foot" else signs[line[0]]
        for line in page
    )


class PagesTest(unittest.TestCase):
    def check(self, plan, rows, *pages):
        told = report(plan, rows)
        self.assertEqual(tuple(short(page) for page in told), pages)

    def test_no_row(self):
        self.assertEqual(report(PLAIN, ()), ((("head", 1), ("final", ())),))
        self.assertEqual(report(SUMMED, ()), ((("head", 1), ("final", ((0, 0),))),))

    def test_one_page_with_all(self):
        rows = (("x", (15, 1)), ("x", (25, 2)))
        self.assertEqual(report(SUMMED, rows), ((
            ("head", 1), ("row", ("x", (15, 1))), ("row", (None, (25, 2))), ("foot", "name", ("x",), ((175, 2),)),
            ("final", ((175, 2),)),
        ),))

    def test_pages_with_sums(self):
        rows = summed_rows("xxxxxy")
        self.assertEqual(report(SUMMED, rows), (
            (("head", 1), ("row", rows[0]), ("row", (None, (2, 0))), ("row", (None, (3, 0))), ("row", (None, (4, 0))),
             ("carried", ((10, 0),))),
            (("head", 2), ("brought", ((10, 0),)), ("row", rows[4]), ("foot", "name", ("x",), ((15, 0),)), ("row", rows[5]),
             ("carried", ((21, 0),))),
            (("head", 3), ("brought", ((21, 0),)), ("foot", "name", ("y",), ((6, 0),)), ("final", ((21, 0),))),
        ))

    def test_pages_without_sums(self):
        rows = plain_rows("xxxxxxxy")
        self.assertEqual(report(PLAIN, rows), (
            (("head", 1), ("row", rows[0])) + tuple(("row", (None, str(at))) for at in range(1, 5)),
            (("head", 2), ("row", rows[5]), ("row", (None, "6")), ("foot", "name", ("x",), ()), ("row", rows[7]),
             ("foot", "name", ("y",), ())),
            (("head", 3), ("final", ())),
        ))

    def test_just_full_and_one_line_more_without_sums(self):
        self.check(PLAIN, plain_rows("xxx"), "Hx..(x)=")
        self.check(PLAIN, plain_rows("xxxx"), "Hx...(x)", "H=")
        self.check(PLAIN, plain_rows("xxxxx"), "Hx....", "H(x)=")
        self.check(PLAIN, plain_rows("xxxxxx"), "Hx....", "Hx(x)=")
        self.check(PLAIN, plain_rows("xxxxxxxx"), "Hx....", "Hx..(x)=")
        self.check(PLAIN, plain_rows("xxxxxxxxx"), "Hx....", "Hx...(x)", "H=")
        self.check(PLAIN, plain_rows("xxy"), "Hx.(x)y(y)", "H=")
        self.check(PLAIN, plain_rows("xy"), "Hx(x)y(y)=")
        self.check(PLAIN, plain_rows("xyz"), "Hx(x)y(y)z", "H(z)=")

    def test_just_full_and_one_line_more_with_sums(self):
        self.check(SUMMED, summed_rows("xxx"), "Hx..(x)=")
        self.check(SUMMED, summed_rows("xxxx"), "Hx...>", "H<(x)=")
        self.check(SUMMED, summed_rows("xxxxx"), "Hx...>", "H<x(x)=")
        self.check(SUMMED, summed_rows("xxxxxx"), "Hx...>", "H<x.(x)=")
        self.check(SUMMED, summed_rows("xxxxxxx"), "Hx...>", "H<x..>", "H<(x)=")
        self.check(SUMMED, summed_rows("x" * 10), "Hx...>", "H<x..>", "H<x..>", "H<(x)=")
        self.check(SUMMED, summed_rows("xy"), "Hx(x)y(y)=")
        self.check(SUMMED, summed_rows("xxy"), "Hx.(x)y>", "H<(y)=")
        self.check(SUMMED, summed_rows("xxxy"), "Hx..(x)>", "H<y(y)=")
        self.check(SUMMED, summed_rows("xxxxy"), "Hx...>", "H<(x)y(y)=")
        self.check(SUMMED, summed_rows("xxxxyy"), "Hx...>", "H<(x)y.>", "H<(y)=")
        self.check(SUMMED, summed_rows("xyz"), "Hx(x)y(y)>", "H<z(z)=")

    def test_longer_pages(self):
        for long in (7, 8, 20):
            for many in range(1, 80):
                body = long - 2 if many > long - 3 else many + 2
                first = report(SUMMED[:3] + (long,), summed_rows("x" * many))[0]
                with self.subTest(long=long, many=many):
                    self.assertEqual(len(first), body + 1 + (1 if many > long - 3 else 0))

    def test_keys_are_shown_anew(self):
        # At a page's beginning, behind brought, and behind a foot; None right behind a row.
        self.check(PLAIN, plain_rows("xxxxxxyyx"), "Hx....", "Hx(x)y.(y)", "Hx(x)=")
        self.check(SUMMED, summed_rows("xxxxxxyyx"), "Hx...>", "H<x.(x)>", "H<y.(y)>", "H<x(x)=")

    def test_columns_of_all_keys_are_none_and_no_others(self):
        rows = (("p", (1, 0), "q", (5, 1)), ("p", (2, 0), "q", (6, 1)), ("r", (3, 0), "q", (7, 1)))
        self.assertEqual(report(TWO[:3] + (9,), rows)[0], (
            ("head", 1), ("row", rows[0]), ("row", (None, (2, 0), None, (6, 1))),
            ("foot", "a", ("q", "p"), ((11, 1), (3, 0))), ("row", rows[2]), ("foot", "a", ("q", "r"), ((7, 1), (3, 0))),
            ("foot", "b", ("q",), ((18, 1), (6, 0))), ("final", ((18, 1), (6, 0))),
        ))

    def test_keys_that_are_the_same_number_are_none_too(self):
        rows = (((1, 0), "a"), ((10, 1), "b"))
        self.assertEqual(report(PLAIN, rows), ((
            ("head", 1), ("row", rows[0]), ("row", (None, "b")), ("foot", "name", ((10, 1),), ()), ("final", ()),
        ),))

    def test_no_keys(self):
        rows = summed_rows("xxxxxxxx")
        pages = report((("name", "many"), (), ("many",), 6), rows)
        self.assertEqual([line for page in pages for line in page if line[0] == "row"], [("row", row) for row in rows])
        self.assertEqual([len(page) for page in pages], [6, 6, 4])

    def test_brought_and_carried_have_the_places_of_their_rows(self):
        rows = tuple(("x", (1, at)) for at in range(6))
        pages = report(SUMMED, rows)
        self.assertEqual((pages[0][-1], pages[1][1]), (("carried", ((1111, 3),)), ("brought", ((1111, 3),))))
        self.assertEqual(pages[-1][-1], ("final", ((111111, 5),)))

    def test_somewhat_shorter_pages(self):
        for long in (5, 4):
            for plan, rows in ((PLAIN, plain_rows("xxyyyyxxxx")), (SUMMED, summed_rows("xxyyyyxxxx"))):
                self.check_pages(plan[:3] + (long,), rows)
        # Too short for any line: there is an end of pages nevertheless.
        for long in (3, 2, 1, 0):
            for plan, rows in ((PLAIN, plain_rows("xxy")), (SUMMED, summed_rows("xxy"))):
                pages = report(plan[:3] + (long,), rows)
                self.assertEqual(pages[-1][-1][0], "final")

    def check_pages(self, plan, rows):
        """All that 6.4 tells of pages, looked at one by one."""
        columns, keys, sums, long = plan
        left = list(breaks(plan, rows))
        amounts = ((0, 0),) * len(sums)
        pages = report(plan, rows)
        for number, page in enumerate(pages, start=1):
            is_last = number == len(pages)
            self.assertLessEqual(len(page), long)
            top = [("head", number)] + ([("brought", amounts)] if sums and number > 1 else [])
            self.assertEqual(list(page[:len(top)]), top)
            # Whether all that is left has room, decides whether this is the last page.
            self.assertEqual(len(left) + len(top) <= long, is_last)
            if not is_last:
                self.assertEqual(len(page), long)
            end = len(page) - (1 if sums and not is_last else 0)
            for at in range(len(top), end):
                line = left.pop(0)
                if line[0] == "row":
                    amounts = tuple(added(old, line[1][columns.index(name)]) for old, name in zip(amounts, sums))
                    if page[at - 1][0] == "row":
                        line = ("row", tuple(
                            None if name in keys else value for name, value in zip(columns, line[1])
                        ))
                self.assertEqual(page[at], line)
            self.assertEqual(list(page[end:]), [("carried", amounts)] if sums and not is_last else [])
        self.assertEqual(left, [])
        self.assertIsInstance(pages, tuple)
        self.assertTrue(all(isinstance(page, tuple) for page in pages))

    def test_all_short_rows(self):
        for long in (6, 7, 9):
            for many in range(8):
                for names in itertools.product("xy", repeat=many):
                    self.check_pages(PLAIN[:3] + (long,), plain_rows(names))
                    self.check_pages(SUMMED[:3] + (long,), summed_rows(names))

    def test_many_rows(self):
        number = 1
        rows = []
        for turn in range(300):
            number = number * 48271 % 2147483647
            rows.append((
                ("p", (1, 0), (10, 1))[number % 3], (number % 2000 - 1000, number % 4), ("q", "r")[number // 100 % 2],
                (number % 77, 0),
            ))
        for many in (0, 1, 2, 5, 50, 51, 52, 299, 300):
            for long in (6, 7, 10, 60, 1000):
                self.check_pages(TWO[:3] + (long,), tuple(rows[:many]))


if __name__ == "__main__":
    unittest.main()
