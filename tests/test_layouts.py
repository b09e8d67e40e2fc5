"""Points 5.1 and 5.2, with 0.2 (e)."""

import unittest
from unittest import mock

from boxmoves.errors import NoPath
from boxmoves.layouts import boxes, is_layout, signs_in, where
from boxmoves.pictures import size_of

A = ("box", "a", "X(4)")
B = ("box", "b", "99")
DATE = ("group", "date", (("box", "year", "9(4)"), ("box", "month", "99"), ("box", "day", "99")))
PRICES = ("table", "prices", 3, (("box", "name", "X(5)"), ("box", "cents", "S9(3)V99")))
ORDER = (
    ("box", "number", "9(5)"),
    DATE,
    ("over", ("box", "plain", "X(8)")),
    ("over", ("group", "short", (("box", "first", "X"), ("over", ("box", "figure", "9")), ("box", "second", "X")))),
    PRICES,
    ("over", ("table", "signs", 30, (("box", "sign", "X"),))),
    ("box", "total", "$$,$$9.99CR"),
    ("over", ("box", "copy", "X(11)")),
    ("box", "last", "A(3)"),
)
NESTED = (
    ("table", "rows", 2, (
        ("box", "key", "S9V9"),
        ("table", "cells", 3, (("box", "value", "Z9"), ("over", ("box", "raw", "XX")),
        ("group", "inner", (("box", "key", "A"),)))),
        ("over", ("table", "halves", 2, (("box", "half", "X(4)"),))),
        ("over", ("group", "whole", (("box", "text", "X(8)"), ("over", ("group", "part", (("box", "text", "XX"),)))))),
    )),
    ("group", "key", (("group", "key", (("box", "key", "X"),)),)),
)
LAYOUTS = {"plain": (A,), "two": (A, B), "order": ORDER, "nested": NESTED}


def deep(many):
    layout = (("box", "a", "9"),)
    for turn in range(many):
        layout = (("box", "a", "9"), ("group", "b", layout), ("over", ("box", "c", "X")))
    return layout


def places(items, start, path):
    """All that is in a layout, by going through it: pairs of a path and (start, size, picture, over); and its end."""
    told = []
    under = start
    for item in items:
        over = item[0] == "over"
        word, name, *rest = item[1] if over else item
        end = under if over else start
        under = end
        if word == "box":
            told.append((path + (name,), (end, size_of(rest[0]), rest[0], over)))
            end += size_of(rest[0])
        else:
            for number in range(rest[0] if word == "table" else 1):
                way = path + ((name, number) if word == "table" else name,)
                begin = end
                inner, end = places(rest[-1], begin, way)
                told.append((way, (begin, end - begin, None, over)))
                told.extend((one, spot[:3] + (over or spot[3],)) for one, spot in inner)
        start = start if over else end
    return told, start


class IsLayoutTest(unittest.TestCase):
    def check(self, layouts, told):
        for layout in layouts:
            with self.subTest(layout=layout):
                self.assertIs(is_layout(layout), told)

    def test_layouts(self):
        self.check(LAYOUTS.values(), True)

    def test_each_sort_of_item(self):
        self.check((
            (("box", "a", "9"),), (("box", "a", "S9(3)V99"),), (("box", "a", "$$9.99"),), (("box", "a", "A"),),
            (("group", "a", (B,)),), (("table", "a", 2, (B,)),), (A, ("over", B)), (A, ("over", ("group", "g", (B,)))),
            (A, ("over", ("table", "t", 2, (B,)))),
        ), True)

    def test_groups_and_tables_within_one_another(self):
        self.check((
            (("group", "a", (("group", "b", (("group", "c", (B,)),)),)),),
            (("table", "a", 2, (("table", "b", 30, (("table", "c", 1, (B,)),)),)),),
            (("group", "a", (("table", "b", 2, (("group", "c", (A, B)),)), A)),),
        ), True)
        for wrong in ((), (("box", "x", "Q"),), (("over", A),), (A, A), [A], A, (A, None), None):
            self.check((
                (("group", "a", (("group", "b", wrong),)),), (("table", "a", 2, (("group", "b", wrong),)),),
                (("group", "a", wrong),),
                (("table", "a", 2, wrong),), (A, ("over", ("group", "g", wrong))),
                (A, ("over", ("table", "t", 1, wrong))),
                (A, ("group", "g", (B, ("over", ("group", "h", wrong))))),
            ), False)

    def test_over_has_no_more_signs(self):
        unders = (A, ("group", "g", (B, ("box", "c", "99"))), ("table", "t", 2, (B,)),
        ("table", "t", 4, (("box", "x", "S9"),)))
        fitting = (
            ("box", "o", "X(4)"), ("box", "o", "X"), ("box", "o", "S99V99"), ("group", "o", (B, ("box", "c", "XX"))),
            ("group", "o", (B,)), ("table", "o", 2, (B,)), ("table", "o", 4, (("box", "x", "9"),)),
            ("table", "o", 1, (B,)),
            ("group", "o", (("box", "c", "X(4)"), ("over", ("box", "d", "X(4)")))),
        )
        too_long = (
            ("box", "o", "X(5)"), ("group", "o", (B, ("box", "c", "XXX"))), ("table", "o", 5, (("box", "x", "9"),)),
            ("table", "o", 3, (B,)), ("group", "o", (("table", "x", 2, (B,)), ("box", "y", "9"))),
            ("box", "o", "Z,ZZ9"),
        )
        self.check([(under, ("over", item)) for under in unders for item in fitting], True)
        self.check([(under, ("over", item)) for under in unders for item in too_long], False)

    def test_over_lies_over_the_last_that_lies_over_none(self):
        short, long = ("box", "short", "X"), ("box", "long", "X(9)")
        self.check((
            (long, ("over", A)), (long, ("over", short), ("over", A)), (short, long, ("over", A)),
            (long, ("over", A), B, ("over", short)),
            (long, ("over", A), ("over", B), ("over", short)),
        ), True)
        self.check((
            (short, ("over", A)), (long, short, ("over", A)), (short, ("over", A), long), (long, ("over", A),
            short, ("over", B)),
            (long, ("over", short), ("over", ("box", "o", "X(10)"))), (short, ("over", ("box", "o", "X")), ("over", B)),
        ), False)

    def test_over_is_not_the_first(self):
        self.check((
            (("over", A),), (("over", B), A), (A, ("group", "g", (("over", B), A))),
            (("table", "t", 1, (("over", B),)),),
        ), False)

    def test_over_within_over(self):
        inner = ("group", "g", (B, ("over", ("box", "c", "XX"))))
        self.check(((A, ("over", inner)), (A, ("over", ("table", "t", 2, (B, ("over", ("box", "c", "9"))))))), True)
        self.check((
            (A, ("over", ("group", "g", (B, ("over", ("box", "c", "XXX")))))), (A, ("over", ("over", B))),
            (A, ("over", ("over", inner))),
            (A, ("over", ("group", "g", (("over", B),)))),
        ), False)

    def test_names(self):
        good = ("a", "z", "abc", "abcdefghijkl", "box", "over", "group", "table")
        bad = (
            "", "abcdefghijklm", "A", "aB", "a1", "1", "a b", " a", "a ", "a_b", "a-b", "a\n", "\u00e9", "a\u00e9a",
            "\u00df", None, True, 1, b"a", ("a",), ["a"], mock.ANY,
        )
        for names, told in ((good, True), (bad, False)):
            for name in names:
                self.check((
                    (("box", name, "9"),), (("group", name, (A,)),), (("table", name, 2, (A,)),), (("box", "x", "9"),
                    ("over", ("box", name, "9"))),
                    (("group", "x", (("box", name, "9"),)),),
                ), told)

    def test_names_are_unlike_within_a_layout(self):
        same = ("box", "a", "9")
        self.check((
            (A, same), (A, B, same), (A, ("over", same)), (A, B, ("over", same)), (A, ("group", "a", (B,))),
            (A, ("table", "a", 2, (B,))),
            (A, ("over", B), ("over", ("box", "b", "9"))), (("group", "g", (B, B)),),
            (A, ("over", ("group", "a", (B,)))),
        ), False)
        self.check((
            (A, ("group", "b", (A,))), (("group", "a", (A, B)), ("group", "b", (A, B))),
            (("table", "a", 2, (("group", "a", (A,)),)),),
            (A, ("over", ("group", "g", (same,)))),
        ), True)

    def test_times(self):
        for times in (1, 2, 29, 30):
            self.check(((("table", "t", times, (B,)),),), True)
        for times in (0, -1, 31, 1000, True, False, None, "2", "", 2.0, 1.5, (2,), [2], mock.ANY):
            self.check((
                (("table", "t", times, (B,)),), (A, ("over", ("table", "t", times, (("box", "x", "9"),)))),
            ), False)

    def test_pictures(self):
        for picture in ("", "Q", "9V", "X(61)", "9(19)", "x", None, True, 9, 99, b"9", ("9",), ["9"], mock.ANY):
            wrong = ("box", "o", picture)
            self.check(((wrong,), (A, wrong), (A, ("over", wrong)), (("group", "g", (wrong,)),)), False)

    def test_things_of_any_kind(self):
        self.check((
            (), [], {}, set(), None, True, False, 0, 1, "", "box", "abc", b"", 1.5, object(),
            str, A, B, DATE, PRICES, ("over", A), [A], [A, B], {A: 1},
            ((),), ([],), (None,), (True,), (1,), ("box",), ("a", "b"), ((A,),), (A, ()), (A, None), (A, "b"),
            (A, [B]), (A, (B,)), (A, 1),
            iter(()), range(3), mock.ANY, (mock.ANY,), (A, mock.ANY), (A, ("over", mock.ANY)),
        ), False)

    def test_lists_stand_nowhere(self):
        self.check((
            [A], (list(A),), (A, list(B)), (("group", "g", [A]),), (("group", "g", (list(A),)),),
            (("table", "t", 2, [A]),), (list(DATE),),
            (list(PRICES),), (A, ["over", B]), (A, ("over", list(B))), (A, ("over", ("group", "g", [B]))),
        ), False)

    def test_items_too_short_too_long_or_with_other_words(self):
        items = []
        for item in (A, DATE, PRICES):
            shorter = (item[:-1], item[:-2], item[:1], item[1:], (item[0],) + item[2:])
            for wrong in shorter + (item + (1,), item + ((A,),), item[::-1]):
                items += [wrong, ("over", wrong)]
        for word in ("Box", "boxes", "", "groups", "field", None, True, 1, ("box",), b"box", mock.ANY):
            for item in (A, DATE, PRICES, ("over", B)):
                items.append((word,) + item[1:])
                items.append(("over", (word,) + item[1:]))
        items += [
            ("over",), ("over", B, B), ("over", "b", "9"), ("over", "b"), ("over", None), ("over", ()),
            ("over", (B,)), ("box", "a", "9", "9"),
            ("group", "g", "9"), ("box", "a", (B,)), ("table", "t", (B,), 2), ("group", "g", 2, (B,)),
            ("table", "t", (B,)), (),
        ]
        for item in items:
            self.check(((("box", "x", "X(60)"), item), (item,)), False)


class SignsTest(unittest.TestCase):
    def test_signs_in(self):
        for layout, signs in (
            ((A,), 4), ((A, B), 6), ((("box", "a", "S9(3)V99"),), 5), ((DATE,), 8), ((PRICES,), 30),
            ((A, ("over", B)), 4),
            ((A, ("over", ("group", "g", (B, ("box", "c", "9")))), B), 6), (ORDER, 5 + 8 + 30 + 11 + 3),
            (NESTED, 2 * (2 + 3 * 3) + 1),
            ((("table", "a", 30, (("table", "b", 30, (("table", "c", 30, (B,)),)),)),), 54000),
            ((("table", "a", 1, (B,)),), 2),
            ((("group", "a", (A, ("over", B))), ("over", ("table", "t", 2, (("box", "x", "9"),)))), 4),
        ):
            with self.subTest(layout=layout):
                self.assertTrue(is_layout(layout))
                self.assertEqual(signs_in(layout), signs)


class WhereTest(unittest.TestCase):
    def test_where(self):
        for path, told in (
            (("number",), (0, 5, "9(5)")), (("date",), (5, 8, None)), (("date", "year"), (5, 4, "9(4)")),
            (("date", "month"), (9, 2, "99")),
            (("date", "day"), (11, 2, "99")), (("plain",), (5, 8, "X(8)")), (("short",), (5, 2, None)),
            (("short", "first"), (5, 1, "X")),
            (("short", "figure"), (5, 1, "9")), (("short", "second"), (6, 1, "X")), ((("prices", 0),), (13, 10, None)),
            ((("prices", 2),), (33, 10, None)), ((("prices", 0), "name"), (13, 5, "X(5)")), ((("prices", 1),
            "cents"), (28, 5, "S9(3)V99")),
            ((("signs", 0),), (13, 1, None)), ((("signs", 29), "sign"), (42, 1, "X")), (("total",),
            (43, 11, "$$,$$9.99CR")),
            (("copy",), (43, 11, "X(11)")), (("last",), (54, 3, "A(3)")),
        ):
            with self.subTest(path=path):
                self.assertEqual(where(ORDER, path), told)

    def test_within_one_another(self):
        for path, told in (
            ((("rows", 0),), (0, 11, None)), ((("rows", 1),), (11, 11, None)), ((("rows", 1), "key"), (11, 2, "S9V9")),
            ((("rows", 1), ("cells", 2)), (19, 3, None)), ((("rows", 1), ("cells", 2), "value"), (19, 2, "Z9")),
            ((("rows", 1), ("cells", 2), "raw"), (19, 2, "XX")), ((("rows", 0), ("cells", 1), "inner"), (7, 1, None)),
            ((("rows", 0), ("cells", 1), "inner", "key"), (7, 1, "A")), ((("rows", 1), ("halves", 1)), (17, 4, None)),
            ((("rows", 1), ("halves", 1), "half"), (17, 4, "X(4)")), ((("rows", 1), "whole", "part", "text"),
            (13, 2, "XX")),
            (("key",), (22, 1, None)), (("key", "key"), (22, 1, None)), (("key", "key", "key"), (22, 1, "X")),
        ):
            with self.subTest(path=path):
                self.assertEqual(where(NESTED, path), told)

    def test_all_that_is_there(self):
        for layout in LAYOUTS.values():
            told, size = places(layout, 0, ())
            self.assertEqual(size, signs_in(layout))
            for path, spot in told:
                self.assertEqual(where(layout, path), spot[:3], path)

    def test_boxes_lie_apart(self):
        for layout in LAYOUTS.values():
            told = dict(places(layout, 0, ())[0])
            covered = []
            for path in boxes(layout):
                start, size, picture = where(layout, path)
                self.assertLessEqual(start + size, signs_in(layout))
                if not told[path][3]:
                    covered.extend(range(start, start + size))
            # Each sign is in just one of the boxes that lie over none, and these come in order.
            self.assertEqual(covered, list(range(signs_in(layout))))

    def test_paths_that_lead_nowhere(self):
        for path in (
            (), ("nothing",), ("",), ("Number",), ("date", "nothing"), ("year",), ("date", "number"), ("a",),
            ("box",), ("over",),
            ("prices",), ("prices", "name"), ("signs",), ("signs", "sign"), ("prices", 0), (("prices", 3),),
            (("prices", -1),),
            (("prices", 30), "name"), (("signs", 30),), (("prices", 0), "nothing"), (("prices", 0), ("name", 0)),
            (("prices", None),),
            (("prices", True),), (("prices", False), "name"), (("prices", "0"),), (("prices",),),
            (("prices", 0, 0),), ((0, "prices"),),
            (("number", 0),), (("date", 0),), (("date", 0), "year"), ("date", ("year", 0)), (("plain", 0),),
            (("short", 0), "first"), (("short", None),),
            ("number", "number"), ("number", "x"), ("date", "year", "year"), (("prices", 0), "name", "name"),
            ("plain", "plain"),
            ("copy", 0), ("number", ("number", 0)), (("nothing", 0),), ((),), (None,), (0,), (("date",),),
            (["prices", 0],),
        ):
            with self.subTest(path=path), self.assertRaises(NoPath):
                where(ORDER, path)
        for path in (
            (("rows", 2),), (("rows", 0), "cells"), (("rows", 0), ("cells", 3)), (("cells", 0),), ("rows", ("cells", 0)),
            ("key", "value"), (("rows", 1), ("whole", 0)), (("rows", 0), ("halves", 2), "half"), ("key",) * 4,
        ):
            with self.subTest(path=path), self.assertRaises(NoPath):
                where(NESTED, path)

    def test_a_path_is_a_tuple(self):
        for path in (["a"], "a", None, [], {"a": 1}):
            with self.subTest(path=path), self.assertRaises(NoPath):
                where((A, B), path)

    def test_a_picture_is_told_as_it_stands(self):
        self.assertEqual(where((("box", "a", "9999999"),), ("a",)), (0, 7, "9999999"))
        self.assertEqual(where((("box", "a", "9(7)"),), ("a",)), (0, 7, "9(7)"))


class BoxesTest(unittest.TestCase):
    def test_boxes(self):
        self.assertEqual(boxes((A,)), (("a",),))
        self.assertEqual(boxes((B, A)), (("b",), ("a",)))
        self.assertEqual(boxes((A, ("over", B))), (("a",), ("b",)))
        self.assertEqual(boxes((PRICES, A)), (
            (("prices", 0), "name"), (("prices", 0), "cents"), (("prices", 1), "name"), (("prices", 1), "cents"),
            (("prices", 2), "name"), (("prices", 2), "cents"), ("a",),
        ))
        self.assertEqual(boxes(ORDER)[:8], (
            ("number",), ("date", "year"), ("date", "month"), ("date", "day"), ("plain",), ("short", "first"),
            ("short", "figure"),
            ("short", "second"),
        ))
        self.assertEqual(boxes(ORDER)[14:44], tuple((("signs", number), "sign") for number in range(30)))
        self.assertEqual(boxes(ORDER)[44:], (("total",), ("copy",), ("last",)))

    def test_tables_within_tables(self):
        layout = (("table", "t", 2, (("table", "u", 2, (B, ("group", "g", (A,)))), ("over", ("box", "o", "X")))),)
        self.assertEqual(boxes(layout), (
            (("t", 0), ("u", 0), "b"), (("t", 0), ("u", 0), "g", "a"), (("t", 0), ("u", 1), "b"), (("t", 0),
            ("u", 1), "g", "a"), (("t", 0), "o"),
            (("t", 1), ("u", 0), "b"), (("t", 1), ("u", 0), "g", "a"), (("t", 1), ("u", 1), "b"), (("t", 1),
            ("u", 1), "g", "a"), (("t", 1), "o"),
        ))

    def test_all_boxes_in_order(self):
        for layout in LAYOUTS.values():
            told = places(layout, 0, ())[0]
            self.assertEqual(boxes(layout), tuple(path for path, spot in told if spot[2] is not None))


class DepthTest(unittest.TestCase):
    def test_deep_layouts(self):
        layout = deep(1500)
        self.assertIs(is_layout(layout), True)
        self.assertEqual(signs_in(layout), 1501)
        self.assertEqual(where(layout, ("b",) * 1500 + ("a",)), (1500, 1, "9"))
        self.assertEqual(len(boxes(deep(500))), 1001)


if __name__ == "__main__":
    unittest.main()
