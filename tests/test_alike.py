"""Point 5.4, with 0.2 (f) and (h)."""

import unittest
from unittest import mock

from boxmoves.areas import Area
from boxmoves.errors import NoFigures, NoGroup, NoLetters, NoMove, NoPath

LAYOUT = (
    ("group", "one", (
        ("box", "a", "99"), ("box", "b", "X(4)"), ("group", "in", (("box", "a", "9V9"), ("box", "x", "A"))),
        ("table", "t", 2, (("box", "a", "9"),)), ("box", "only", "99"), ("over", ("box", "o", "X")),
    )),
    ("group", "two", (
        ("group", "in", (("box", "x", "A"), ("box", "a", "99V99"))), ("box", "b", "X(6)"), ("box", "a", "Z9"),
        ("table", "t", 2, (("box", "a", "9"),)), ("box", "o", "XX"), ("group", "only", (("box", "z", "9"),)),
    )),
    ("group", "none", (("box", "c", "99"), ("group", "a", (("box", "b", "X"),)), ("group", "b", (("box", "a", "9"),)))),
    ("table", "rows", 2, (("box", "a", "S9"), ("box", "b", "X"))),
    ("group", "tables", (("table", "t", 2, (("box", "a", "9"),)),)),
    ("box", "b", "X(4)"),
)
WAYS = (("a",), ("b",), ("in", "a"), ("in", "x"), ("o",))
ONE = "07" "ab d" "12k" "56" "89"
TWO = "m1234" "uvwxyz" " 9" "34" "op" "8"


def filled():
    area = Area(LAYOUT)
    area.load(("one",), ONE)
    area.load(("two",), TWO)
    return area


class MoveAlikeTest(unittest.TestCase):
    def setUp(self):
        self.area = filled()

    def test_what_both_have(self):
        self.assertEqual(self.area.move_alike(("one",), ("two",)), 5)
        self.assertEqual(self.area.get(("two",)), "k0120" "ab d  " " 7" "34" "8 " "8")
        self.assertEqual(self.area.signs(), ONE + self.area.get(("two",)) + "00 0" "0 0 " "00" "    ")

    def test_the_other_way(self):
        self.assertEqual(self.area.move_alike(("two",), ("one",)), 5)
        self.assertEqual(self.area.get(("one",)), "09" "uvwx" "23m" "56" "o9")
        self.assertEqual(self.area.signs(), self.area.get(("one",)) + TWO + "00 0" "0 0 " "00" "    ")

    def test_each_as_by_itself(self):
        for path, other in ((("one",), ("two",)), (("two",), ("one",))):
            area, single = filled(), filled()
            area.move_alike(path, other)
            for way in WAYS:
                single.move(path + way, other + way)
            self.assertEqual(area.signs(), single.signs())

    def test_some(self):
        for path, other, many, part in (
            (("one",), (("rows", 1),), 2, "7a"), (("two",), (("rows", 0),), 2, "9u"), ((("rows", 0),), ("two",), 2,
             "m1234" "      " " 0" "34" "op" "8"),
            ((("rows", 0),), ("one", "in"), 1, "00k"), (("one", "in"), ("two", "in"), 2, "k0120"),
            (("two", "in"), ("one",), 1, "12" + ONE[2:]), (("none", "b"), (("rows", 1),), 1, "0 "),
        ):
            with self.subTest(path=path, other=other):
                area = filled()
                self.assertEqual(area.move_alike(path, other), many)
                self.assertEqual(area.get(other), part)
                area.load(other, filled().get(other))
                self.assertEqual(area.signs(), filled().signs())

    def test_none(self):
        for path, other in (
            (("one",), ("none",)), (("none",), ("two",)), (("one",), ("tables",)), (("tables",), ("tables",)),
            (("one", "in"), ("none",)), (("two", "only"), ("one", "in")), (("one",), ("two", "only")),
        ):
            with self.subTest(path=path, other=other):
                self.assertEqual(self.area.move_alike(path, other), 0)
                self.assertEqual(self.area.signs(), filled().signs())
                self.assertEqual(self.area.back(), "move_alike")
                self.assertEqual(self.area.again(), "move_alike")

    def test_all(self):
        self.area.load((("rows", 0),), "ux")
        self.assertEqual(self.area.move_alike((("rows", 0),), (("rows", 1),)), 2)
        self.assertEqual(self.area.get((("rows", 1),)), "ux")
        self.assertEqual(self.area.move_alike(("one",), ("one",)), 6)
        self.assertEqual(self.area.get(("one",)), ONE)
        self.assertEqual(self.area.move_alike(("none",), ("none",)), 3)

    def test_one_move_sees_what_those_ahead_brought(self):
        layout = (
            ("group", "g", (("box", "a", "X"), ("box", "b", "X"), ("box", "c", "X"))),
            ("over", ("group", "h", (("box", "x", "X"), ("box", "a", "X"), ("box", "b", "X")))),
        )
        for path, other, signs in ((("g",), ("h",), "111"), (("h",), ("g",), "233")):
            area = Area(layout)
            area.load(("g",), "123")
            self.assertEqual(area.move_alike(path, other), 2)
            self.assertEqual(area.signs(), signs)

    def test_in_the_order_of_the_first(self):
        layout = (
            ("group", "g", (("box", "a", "X"), ("box", "b", "X"))),
            ("group", "h", (("box", "b", "XX"), ("over", ("box", "a", "X")))),
            ("group", "i", (("box", "b", "X"), ("box", "a", "X"))),
        )
        area = Area(layout)
        area.load(("g",), "ab")
        area.load(("i",), "ba")
        area.move_alike(("g",), ("h",))
        self.assertEqual(area.get(("h",)), "b ")
        area.move_alike(("i",), ("h",))
        self.assertEqual(area.get(("h",)), "a ")

    def test_one_refused_move_refuses_all(self):
        first = (("box", "a", "X"), ("box", "b", "XX"), ("box", "c", "A"), ("box", "d", "99"))
        for error, signs, pictures in (
            (NoMove, "xyzq12", ("X", "XX", "9", "99")), (NoMove, "xyzq12", ("X", "XX", "A", "AA")),
            (NoFigures, "xyzq12", ("X", "99", "A", "99")), (NoFigures, "xyzq1q", ("X", "XX", "A", "99")),
            (NoFigures, "xyzq12", ("9", "XX", "A", "99")), (NoLetters, "xy1q12", ("X", "AA", "A", "99")),
            (NoLetters, "xyz512", ("X", "XX", "A", "99")),
            # Of several refusals that of the first move is raised.
            (NoFigures, "xy1q1q", ("9", "AA", "9", "99")), (NoLetters, "1y1q1q", ("9", "AA", "9", "99")),
            (NoMove, "1yzq1q", ("9", "AA", "9", "99")), (NoFigures, "1yzq1q", ("9", "AA", "A", "99")),
        ):
            second = tuple(("box", name, picture) for name, picture in zip("abcd", pictures))
            layout = (("group", "one", first), ("group", "two", second))
            areas = (Area(layout), Area(layout))
            for area in areas:
                area.load(("one",), signs)
                area.load(("two",), "??????")
                area.load(("two",), "!!!!!!")
                area.back()
            with self.subTest(signs=signs, pictures=pictures):
                self.assertRaises(error, areas[0].move_alike, ("one",), ("two",))
                self.assertTrue(areas[0] == areas[1])
                self.assertEqual(areas[0].again(), "load")
                self.assertEqual(areas[0].signs(), signs + "!!!!!!")

    def test_no_group(self):
        for path, other in (
            (("b",), ("one",)), (("one",), ("b",)), (("b",), ("b",)), (("one", "a"), ("two", "a")),
            ((("rows", 0), "a"), (("rows", 1),)), (("one", "in"), ("two", "in", "x")), (("one",), ("one", "o")),
        ):
            with self.subTest(path=path, other=other):
                self.assertRaises(NoGroup, self.area.move_alike, path, other)
                self.assertTrue(self.area == filled())

    def test_no_path_comes_first(self):
        for wrong in ((), ("x",), ("rows",), (("rows", 2),), ("one", "t"), ("b", "b"), ("one", "z"), "one"):
            for path in (("one",), ("b",), (("rows", 1),), ("one", "a"), wrong):
                with self.subTest(path=path, wrong=wrong):
                    self.assertRaises(NoPath, self.area.move_alike, path, wrong)
                    self.assertRaises(NoPath, self.area.move_alike, wrong, path)
                    self.assertTrue(self.area == filled())


class EqualTest(unittest.TestCase):
    LAYOUT = (("box", "a", "99"), ("group", "g", (("box", "b", "XX"),)), ("over", ("box", "c", "XX")))

    def check(self, one, other, told):
        self.assertIs(one == other, told)
        self.assertIs(other == one, told)
        self.assertIs(one != other, not told)

    def made(self, *deeds):
        area = Area(self.LAYOUT)
        for deed, *things in deeds:
            getattr(area, deed)(*things)
        return area

    def test_same_deeds(self):
        for deeds in (
            (), (("load", ("a",), "12"),), (("give", ("a",), (5, 0)), ("back",)),
            (("move", ("a",), ("g",)), ("store", ("a",), (7, 0)), ("move_alike", ("g",), ("g",)), ("back",), ("back",)),
        ):
            self.check(self.made(*deeds), self.made(*deeds), True)
        area = self.made(("load", ("a",), "12"))
        self.check(area, area, True)

    def test_deeds_that_can_not_be_taken_back_or_done_again_do_not_count(self):
        load = ("load", ("a",), "12")
        self.check(self.made(load), self.made(("give", ("a",), (7, 0)), ("back",), load), True)
        self.check(self.made(load), self.made(load, ("back",), ("again",)), True)
        self.check(self.made(load), self.made(load, ("store", ("a",), (100, 0))), True)

    def test_same_layouts_made_apart(self):
        for layout in (LAYOUT, self.LAYOUT):
            other = eval(repr(layout))
            self.check(Area(layout), Area(other), True)

    def test_other_layout(self):
        for one, other in (
            ((("box", "a", "99"),), (("box", "b", "99"),)), ((("box", "a", "99"),), (("box", "a", "9V9"),)),
            ((("box", "a", "99"),), (("box", "a", "9"), ("box", "b", "9"))),
            ((("box", "a", "99"),), (("group", "a", (("box", "a", "99"),)),)),
            ((("box", "a", "99"),), (("box", "a", "99"), ("over", ("box", "b", "9")))),
            ((("group", "a", (("box", "a", "99"),)),), (("table", "a", 1, (("box", "a", "99"),)),)),
            ((("table", "a", 2, (("box", "a", "99"),)),), (("table", "a", 4, (("box", "a", "9"),)),)),
            ((("group", "a", (("box", "a", "9"), ("box", "b", "9"))),),
             (("group", "a", (("box", "a", "9"),)), ("box", "b", "9"))),
            ((("box", "a", "9"), ("over", ("box", "b", "9")), ("box", "c", "9")),
             (("box", "a", "9"), ("box", "b", "9"), ("over", ("box", "c", "9")))),
        ):
            with self.subTest(one=one, other=other):
                self.assertEqual(Area(one).signs(), Area(other).signs())
                self.check(Area(one), Area(other), False)

    def test_other_signs(self):
        self.check(self.made(), self.made(("load", ("a",), "12")), False)
        self.check(self.made(("load", ("a",), "13")), self.made(("load", ("a",), "12")), False)

    def check_apart(self, rows):
        for one, other in rows:
            with self.subTest(one=one, other=other):
                self.assertEqual(self.made(*one).signs(), self.made(*other).signs())
                self.check(self.made(*one), self.made(*other), False)

    def test_other_deeds_that_can_be_taken_back(self):
        self.check_apart((
            ((), (("load", ("a",), "00"),)),
            ((("load", ("a",), "07"),), (("give", ("a",), (7, 0)),)),
            ((("give", ("a",), (7, 0)),), (("store", ("a",), (7, 0)),)),
            ((("load", ("a",), "07"),), (("load", ("a",), "08"), ("load", ("a",), "07"))),
            ((("load", ("a",), "09"), ("load", ("a",), "07")), (("load", ("a",), "08"), ("load", ("a",), "07"))),
            ((), (("move_alike", ("g",), ("g",)),)),
            ((("move", ("g",), ("g",)),), (("move_alike", ("g",), ("g",)),)),
        ))

    def test_other_deeds_that_can_be_done_again(self):
        load, back = ("load", ("a",), "12"), ("back",)
        self.check_apart((
            ((), (load, back)), ((load, back), (("load", ("a",), "13"), back)),
            ((load, back), (("give", ("a",), (12, 0)), back)), ((load, back), (load, load, back, back)),
        ))

    def test_things_of_other_kinds(self):
        area = self.made()
        for thing in (
            None, True, False, 0, 4, "", str(area), area.signs(), self.LAYOUT, (), (area,), [area], {}, object(), Area,
        ):
            with self.subTest(thing=thing):
                self.check(area, thing, False)
        self.assertIs(area == mock.ANY, False)

    def test_signs_len_and_str(self):
        area = self.made(("load", ("a",), "1]"), ("load", ("c",), "~ "))
        self.assertEqual((area.signs(), len(area), str(area)), ("1]~ ", 4, "[1]~ ]"))


if __name__ == "__main__":
    unittest.main()
