"""Point 5.3, with 0.2 (b), (d), (e) and (h)."""

import unittest

from boxmoves.areas import Area
from boxmoves.errors import BadSize, BoxError, NoAmount, NoFigures, NoLetters, NoMove, NoPath
from boxmoves.layouts import boxes, where
from boxmoves.moving import move, stored
from boxmoves.pictures import room

ORDER = (
    ("box", "number", "9(5)"),
    ("group", "date", (("box", "year", "9(4)"), ("box", "month", "99"), ("box", "day", "99"))),
    ("over", ("box", "plain", "X(8)")),
    ("over", ("group", "short", (("box", "first", "X"), ("over", ("box", "figure", "9")), ("box", "second", "AA")))),
    ("table", "prices", 2, (("box", "name", "A(4)"), ("box", "cents", "S99V99"))),
    ("over", ("table", "signs", 8, (("box", "sign", "XX"),))),
    ("box", "total", "$$,$$9.99CR"),
    ("over", ("box", "copy", "Z9.9")),
    ("box", "last", "A(3)"),
)
BEGINNING = "00000" "0000" "00" "00" "    " "0000" "    " "0000" "    $0.00  " "   "
FILLED = "12345" "2026" "11" "17" "Abcd" "123u" "ef  " "0450" "$1,234.56CR" "xyZ"
SPOTS = {
    ("number",): (0, 5), ("date",): (5, 8), ("date", "year"): (5, 4), ("date", "month"): (9, 2),
    ("date", "day"): (11, 2), ("plain",): (5, 8), ("short",): (5, 3), ("short", "first"): (5, 1),
    ("short", "figure"): (5, 1), ("short", "second"): (6, 2), (("prices", 0),): (13, 8),
    (("prices", 0), "name"): (13, 4), (("prices", 0), "cents"): (17, 4), (("prices", 1),): (21, 8),
    (("prices", 1), "name"): (21, 4), (("prices", 1), "cents"): (25, 4), (("signs", 0),): (13, 2),
    (("signs", 1),): (15, 2),
    (("signs", 3), "sign"): (19, 2), (("signs", 7),): (27, 2), (("signs", 7), "sign"): (27, 2), ("total",): (29, 11),
    ("copy",): (29, 4), ("last",): (40, 3),
}
PICTURES = {path: where(ORDER, path)[2] for path in SPOTS}
NUMBERS = [path for path in SPOTS if path[-1] in ("number", "year", "month", "day", "figure", "cents")]
EDITED = [("total",), ("copy",)]
TEXTS = [path for path in SPOTS if path[-1] in ("plain", "first", "sign", "second", "name", "last")]
GROUPS = [path for path in SPOTS if PICTURES[path] is None]
WRONG_PATHS = (
    (), ("nothing",), ("prices",), (("prices", 2),), (("prices", -1), "name"), ("number", "number"), ("date", "hour"),
    ("year",), (("date", 0),), (("signs", 8), "sign"), ("short", "year"), (("prices", 0), "nothing"), (None,), "number",
)


def filled():
    area = Area(ORDER)
    for path in (("number",), ("date",), (("prices", 0),), (("prices", 1),), ("total",), ("last",)):
        start, size = SPOTS[path]
        area.load(path, FILLED[start:start + size])
    return area


def with_part(signs, path, part):
    start, size = SPOTS[path]
    assert len(part) == size
    return signs[:start] + part + signs[start + size:]


def deep(many):
    layout = (("box", "a", "9"),)
    for turn in range(many):
        layout = (("box", "a", "9"), ("group", "b", layout), ("over", ("box", "c", "X")))
    return layout


class AreaTest(unittest.TestCase):
    def setUp(self):
        self.area = filled()
        self.twin = filled()

    def check_deed(self, signs, deed, *things, told=None, **named):
        """Does a deed, and looks at its signs, at what it tells, and at going back and forth."""
        before = self.area.signs()
        self.assertIs(getattr(self.area, deed)(*things, **named), told)
        self.assertEqual(self.area.signs(), signs)
        self.assertEqual(self.area.back(), deed)
        self.assertEqual(self.area.signs(), before)
        self.assertEqual(self.area.again(), deed)
        self.assertEqual(self.area.signs(), signs)
        self.area = filled()

    def check_refusal(self, error, deed, *things, **named):
        with self.subTest(deed=deed, things=things, named=named):
            with self.assertRaises(error):
                getattr(self.area, deed)(*things, **named)
            self.assertTrue(self.area == self.twin)


class BeginningTest(unittest.TestCase):
    def test_signs_at_the_beginning(self):
        for layout, signs in (
            (ORDER, BEGINNING),
            ((("box", "a", "S9(3)V99"),), "00000"), ((("box", "a", "X(3)"),), "   "), ((("box", "a", "AA"),), "  "),
            ((("box", "a", "ZZ9.9-"),), "  0.0 "), ((("box", "a", "**.**"),), "**.**"), ((("box", "a", "Z(3)"),), "   "),
            ((("box", "a", "+9"), ("box", "b", "9/9"), ("box", "c", "$$")), "+00/0 $"),
            ((("table", "t", 3, (("box", "a", "9"), ("box", "b", "X"))),), "0 0 0 "),
            ((("table", "t", 2, (("box", "a", "+9"), ("table", "u", 2, (("box", "b", "XX"), ("box", "c", "V9"))))),),
             "+0  0  0+0  0  0"),
            ((("group", "g", (("group", "h", (("box", "a", "-9"),)), ("box", "b", "A"))), ("box", "c", "9")), " 0 0"),
        ):
            with self.subTest(layout=layout):
                area = Area(layout)
                self.assertEqual(area.signs(), signs)
                self.assertEqual(len(area), len(signs))
                self.assertEqual(str(area), "[" + signs + "]")

    def test_what_lies_over_others_has_no_beginning_of_its_own(self):
        for layout, signs in (
            ((("box", "a", "99"), ("over", ("box", "b", "XX"))), "00"),
            ((("box", "a", "XX"), ("over", ("box", "b", "99")), ("box", "c", "9")), "  0"),
            ((("box", "a", "X(4)"), ("over", ("group", "g", (("box", "b", "9"), ("box", "c", "9"))))), "    "),
            ((("box", "a", "X(4)"), ("over", ("table", "t", 2, (("box", "b", "+9"),)))), "    "),
            ((("group", "g", (("box", "b", "9"), ("over", ("box", "c", "X")))), ("over", ("box", "d", "A"))), "0"),
            ((("table", "t", 2, (("box", "a", "99"), ("over", ("box", "b", "A")), ("box", "c", "X"))),), "00 00 "),
        ):
            with self.subTest(layout=layout):
                self.assertEqual(Area(layout).signs(), signs)

    def test_groups_as_deep_as_one_likes(self):
        area = Area(deep(2000))
        self.assertEqual(area.signs(), "0" * 2001)
        self.assertTrue(area == Area(deep(2000)))
        self.assertFalse(area == Area(deep(1999) + (("box", "d", "9"),)))
        area.give(("b",) * 2000 + ("a",), (7, 0))
        self.assertEqual(area.signs(), "0" * 2000 + "7")


class GetTest(AreaTest):
    def test_get(self):
        for path, (start, size) in SPOTS.items():
            with self.subTest(path=path):
                self.assertEqual(self.area.get(path), FILLED[start:start + size])
                self.assertEqual(Area(ORDER).get(path), BEGINNING[start:start + size])
        self.assertTrue(self.area == self.twin)

    def test_boxes_in_order_are_all_signs(self):
        layout = (ORDER[0], ORDER[1], ORDER[4], ORDER[6], ORDER[8])
        area = Area(layout)
        self.assertEqual("".join(area.get(path) for path in boxes(layout)), area.signs())

    def test_no_path(self):
        for path in WRONG_PATHS:
            self.check_refusal(NoPath, "get", path)


class AmountTest(AreaTest):
    def test_amount(self):
        for path, amount in (
            (("number",), (12345, 0)), (("date", "year"), (2026, 0)), (("date", "month"), (11, 0)),
            (("short", "figure"), (2, 0)), ((("prices", 0), "cents"), (-1235, 2)), ((("prices", 1), "cents"), (450, 2)),
            (("total",), (-123456, 2)),
        ):
            with self.subTest(path=path):
                self.assertEqual(self.area.amount(path), amount)
        self.assertTrue(self.area == self.twin)
        for path in NUMBERS + [("total",)]:
            self.assertEqual(Area(ORDER).amount(path), (0, room(PICTURES[path])[2]))

    def test_no_amount(self):
        for path in TEXTS + GROUPS:
            self.check_refusal(NoAmount, "amount", path)

    def test_no_figures(self):
        for path, text in (
            (("number",), "1234x"), (("number",), "1234q"), (("date", "month"), " 1"), ((("prices", 1), "cents"), "q000"),
            ((("prices", 1), "cents"), "000z"), (("total",), "          0"), (("total",), "   $05.00CR"),
            (("total",), " " * 11), (("copy",), " 1,5"),
        ):
            self.area.load(path, text)
            self.twin.load(path, text)
            self.check_refusal(NoFigures, "amount", path)

    def test_no_path(self):
        for path in WRONG_PATHS:
            self.check_refusal(NoPath, "amount", path)


class LoadTest(AreaTest):
    def test_load(self):
        for path, (start, size) in SPOTS.items():
            for text in ("~" * size, " " * size, ("a1-" * size)[:size], FILLED[start:start + size]):
                with self.subTest(path=path, text=text):
                    self.check_deed(with_part(FILLED, path, text), "load", path, text)

    def test_by_name(self):
        self.area.load(text="QQQ", path=("last",))
        self.assertEqual(self.area.get(path=("last",)), "QQQ")

    def test_bad_size(self):
        for path, (start, size) in SPOTS.items():
            for text in ("x" * (size + 1), "x" * (size - 1), "", "0" * 43, " " * (2 * size)):
                self.check_refusal(BadSize, "load", path, text)

    def test_no_path_comes_first(self):
        for path in WRONG_PATHS:
            for text in ("", "x", "12345", "x" * 43):
                self.check_refusal(NoPath, "load", path, text)


class GiveTest(AreaTest):
    def test_give(self):
        for path, amount, part in (
            (("number",), (7, 0), "00007"), (("number",), (-7, 0), "00007"), (("number",), (1234567, 0), "34567"),
            (("number",), (799, 2), "00007"), (("date", "day"), (5, 0), "05"), (("short", "figure"), (19, 0), "9"),
            ((("prices", 0), "cents"), (-15, 1), "015p"), ((("prices", 1), "cents"), (123456, 3), "2345"),
            ((("prices", 1), "cents"), (-123456, 3), "234u"), ((("prices", 1), "cents"), (-1, 3), "0000"),
            (("total",), (123456789, 4), "$2,345.67  "), (("total",), (-5, 0), "    $5.00CR"),
            (("total",), (0, 0), "    $0.00  "), (("copy",), (129, 2), " 1.2"), (("copy",), (-129, 2), " 1.2"),
        ):
            with self.subTest(path=path, amount=amount):
                self.check_deed(with_part(FILLED, path, part), "give", path, amount)

    def test_given_and_read_back(self):
        for path in NUMBERS + EDITED:
            signed, before, behind = room(PICTURES[path])
            for units in (0, 1, -1, 9, 10, 99, -99, 100, 12345, -98765, 10 ** 20 + 7, -(10 ** 18)):
                for places in (0, 1, 2, 5, 18):
                    self.area.give(path, (units, places))
                    left = abs(units) * 10 ** behind // 10 ** places % 10 ** (before + behind)
                    told = (-left if signed and units < 0 else left, behind)
                    self.assertEqual(self.area.amount(path), told, (path, units, places))

    def test_moved_on_to_a_box_with_at_least_these_places(self):
        area = Area((("box", "a", "S9V9"), ("box", "b", "S99V99"), ("box", "c", "--,--9.999")))
        for units in (0, 1, -1, 99, -99, 1234, -567):
            area.give(("a",), (units, 1))
            amount = area.amount(("a",))
            area.move(("a",), ("b",))
            area.move(("b",), ("c",))
            self.assertEqual(area.amount(("b",)), (amount[0] * 10, 2))
            self.assertEqual(area.amount(("c",)), (amount[0] * 100, 3))

    def test_no_amount(self):
        for path in TEXTS + GROUPS:
            self.check_refusal(NoAmount, "give", path, (5, 0))

    def test_no_path(self):
        for path in WRONG_PATHS:
            self.check_refusal(NoPath, "give", path, (5, 0))


class StoreTest(AreaTest):
    def test_store(self):
        for path, amount, nearest, part in (
            (("number",), (99999, 0), False, "99999"), (("number",), (7, 0), True, "00007"),
            (("number",), (-7, 0), False, "00007"), (("date", "day"), (995, 1), False, "99"),
            (("date", "day"), (985, 1), True, "99"), (("date", "day"), (984, 1), True, "98"),
            ((("prices", 1), "cents"), (-12345, 3), False, "123t"), ((("prices", 1), "cents"), (-12345, 3), True, "123u"),
            ((("prices", 0), "cents"), (4, 3), True, "0000"), ((("prices", 0), "cents"), (5, 3), True, "0001"),
            (("short", "figure"), (9, 0), False, "9"),
        ):
            with self.subTest(path=path, amount=amount, nearest=nearest):
                signs = with_part(FILLED, path, part)
                self.check_deed(signs, "store", path, amount, told=True, nearest=nearest)
                if not nearest:
                    self.check_deed(signs, "store", path, amount, told=True)

    def test_what_has_no_room_is_left(self):
        for path, amount, nearest in (
            (("number",), (100000, 0), False), (("number",), (-100000, 0), True), (("number",), (10 ** 40, 18), False),
            (("date", "day"), (995, 1), True), ((("prices", 0), "cents"), (99995, 3), True),
            ((("prices", 1), "cents"), (-100, 0), False), (("short", "figure"), (10, 0), False),
        ):
            with self.subTest(path=path, amount=amount, nearest=nearest):
                self.assertIs(self.area.store(path, amount, nearest=nearest), False)
                self.assertTrue(self.area == self.twin)

    def test_as_stored_tells(self):
        for path in NUMBERS:
            for units in (0, 4, 5, -5, 94, 95, 99, -99, 9949, 9950, 9999, -9995, 99994, 99995, 10 ** 9):
                for places in (0, 1, 2, 3, 4):
                    for nearest in (False, True):
                        area = filled()
                        content = stored(PICTURES[path], (units, places), nearest=nearest)
                        told = area.store(path, (units, places), nearest=nearest)
                        self.assertIs(told, content is not None)
                        signs = FILLED if content is None else with_part(FILLED, path, content)
                        self.assertEqual(area.signs(), signs)

    def test_no_amount(self):
        for path in EDITED + TEXTS + GROUPS:
            for amount in ((5, 0), (10 ** 20, 0)):
                for nearest in (False, True):
                    self.check_refusal(NoAmount, "store", path, amount, nearest=nearest)

    def test_no_path(self):
        for path in WRONG_PATHS:
            self.check_refusal(NoPath, "store", path, (5, 0))
            self.check_refusal(NoPath, "store", path, (10 ** 40, 0), nearest=True)


class MoveTest(AreaTest):
    def test_from_box_to_box(self):
        for path, other, part in (
            (("number",), ("date", "day"), "45"), (("number",), ("total",), "$2,345.00  "),
            (("number",), ("plain",), "12345   "), ((("prices", 0), "cents"), ("total",), "   $12.35CR"),
            ((("prices", 0), "cents"), (("prices", 1), "cents"), "123u"), (("total",), (("prices", 1), "cents"), "345v"),
            (("total",), ("number",), "01234"), ((("prices", 0), "name"), ("last",), "Abc"),
            (("last",), (("prices", 1), "name"), "xyZ "), (("plain",), ("number",), "61117"),
            ((("prices", 1), "name"), ("plain",), "ef      "),
        ):
            with self.subTest(path=path, other=other):
                self.check_deed(with_part(FILLED, path=other, part=part), "move", path, other)

    def test_at_the_right(self):
        for path, other, part in (
            (("number",), ("plain",), "   12345"), ((("prices", 0), "name"), ("last",), "bcd"),
            (("last",), (("prices", 1), "name"), " xyZ"), (("date",), ("number",), "61117"),
            (("last",), ("date",), "     xyZ"), (("number",), ("date", "day"), "45"),
        ):
            with self.subTest(path=path, other=other):
                self.check_deed(with_part(FILLED, other, part), "move", path, other, right=True)

    def test_from_and_to_groups(self):
        for path, other, part in (
            (("date",), ("number",), "20261"), (("date",), (("prices", 1),), "20261117"),
            ((("prices", 0),), (("prices", 1),), "Abcd123u"), ((("prices", 0),), ("total",), "Abcd123u   "),
            ((("prices", 0),), ("last",), "Abc"), ((("prices", 0), "cents"), ("date",), "123u    "),
            (("total",), ("date",), "$1,234.5"), (("last",), ("date",), "xyZ     "), (("number",), ("short",), "123"),
            ((("signs", 3),), ("last",), "3u "), ((("signs", 3), "sign"), (("signs", 0),), "3u"),
            # Letters too get the signs of a group, whatever they are.
            (("date",), ("last",), "202"), (("date",), (("prices", 0), "name"), "2026"),
        ):
            with self.subTest(path=path, other=other):
                self.check_deed(with_part(FILLED, other, part), "move", path, other)
                self.check_deed(with_part(FILLED, other, part), "move", path, other, right=False)

    def test_both_lie_over_one_another(self):
        for path, other, right, part in (
            (("plain",), ("date", "year"), False, "1117"), (("date",), ("short",), False, "202"),
            (("date",), ("short",), True, "117"), (("short",), ("date",), False, "202     "),
            (("short",), ("date",), True, "     202"), (("date",), ("plain",), True, "20261117"),
            (("short", "figure"), ("date", "year"), False, "0002"), (("date", "year"), ("plain",), True, "    2026"),
            ((("prices", 0),), (("signs", 1),), True, "3u"), ((("signs", 1),), (("prices", 0),), True, "      cd"),
            (("total",), ("copy",), False, "34.5"), (("plain",), ("plain",), True, "20261117"),
        ):
            with self.subTest(path=path, other=other, right=right):
                self.check_deed(with_part(FILLED, other, part), "move", path, other, right=right)

    def test_each_pair(self):
        for path, (start, size) in SPOTS.items():
            for other, (other_start, other_size) in SPOTS.items():
                for right in (False, True):
                    with self.subTest(path=path, other=other, right=right):
                        self.check_pair(path, other, FILLED[start:start + size], other_size, right)

    def check_pair(self, path, other, content, size, right):
        if PICTURES[path] is None or PICTURES[other] is None:
            part = content.rjust(size)[-size:] if right else content.ljust(size)[:size]
        else:
            try:
                part = move(content, PICTURES[path], PICTURES[other], right=right)
            except BoxError as error:
                self.check_refusal(error.__class__, "move", path, other, right=right)
                return
        self.check_deed(with_part(FILLED, other, part), "move", path, other, right=right)

    def test_refused_moves(self):
        for error, path, other in (
            (NoMove, (("prices", 0), "cents"), ("plain",)), (NoMove, ("last",), ("number",)), (NoMove, ("last",), ("total",)),
            (NoMove, ("number",), ("last",)), (NoMove, ("total",), ("last",)), (NoFigures, (("signs", 0), "sign"), ("number",)),
            (NoFigures, (("signs", 3), "sign"), ("total",)), (NoFigures, ("copy",), ("number",)),
            (NoLetters, ("plain",), ("last",)), (NoLetters, ("short", "second"), (("prices", 0), "name")),
        ):
            for right in (False, True):
                self.check_refusal(error, "move", path, other, right=right)

    def test_no_path_of_either(self):
        for wrong in WRONG_PATHS:
            for path in (("number",), ("last",), ("date",), (("prices", 0), "cents")):
                self.check_refusal(NoPath, "move", wrong, path)
                self.check_refusal(NoPath, "move", path, wrong, right=True)
            self.check_refusal(NoPath, "move", wrong, wrong)

    def test_a_group_moved_is_its_signs_moved(self):
        inner = (("box", "a", "S99V9"), ("box", "b", "X(3)"), ("table", "c", 2, (("box", "d", "Z9"),)))
        layout = (("group", "one", inner), ("group", "two", inner), ("table", "three", 2, inner))
        area = Area(layout)
        area.load(("one",), "12qx y 7??")
        for other in (("two",), (("three", 0),), (("three", 1),)):
            area.move(("one",), other)
            self.assertEqual(area.get(other), "12qx y 7??")
            for way in (("a",), ("b",), (("c", 0), "d"), (("c", 1), "d")):
                self.assertEqual(area.get(other + way), area.get(("one",) + way))
        self.assertEqual(area.signs(), "12qx y 7??" * 4)


if __name__ == "__main__":
    unittest.main()
