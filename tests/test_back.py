"""Point 5.5, with 0.2 (h)."""

import unittest

from boxmoves.areas import Area
from boxmoves.errors import BadSize, BoxError, NoAmount, NoBack, NoFigures, NoGroup, NoLetters, NoMove, NoPath
from boxmoves.moving import content_of, move, stored

LAYOUT = (
    ("box", "number", "9(4)"),
    ("group", "one", (("box", "text", "X(4)"), ("box", "cents", "S9V99"))),
    ("over", ("group", "half", (("box", "text", "XX"), ("box", "rest", "X(3)")))),
    ("table", "two", 2, (("box", "cents", "Z9.9-"), ("box", "text", "AAA"))),
    ("group", "none", (("box", "last", "XX"),)),
)
# Where all lies: (start, size, picture), and for groups None and their boxes.
SPOTS = {
    ("number",): (0, 4, "9(4)", ()), ("one",): (4, 7, None, ("text", "cents")), ("one", "text"): (4, 4, "X(4)", ()),
    ("one", "cents"): (8, 3, "S9V99", ()), ("half",): (4, 5, None, ("text", "rest")), ("half", "text"): (4, 2, "XX", ()),
    ("half", "rest"): (6, 3, "X(3)", ()), (("two", 0),): (11, 8, None, ("cents", "text")),
    (("two", 0), "cents"): (11, 5, "Z9.9-", ()), (("two", 0), "text"): (16, 3, "AAA", ()),
    (("two", 1),): (19, 8, None, ("cents", "text")), (("two", 1), "cents"): (19, 5, "Z9.9-", ()),
    (("two", 1), "text"): (24, 3, "AAA", ()), ("none",): (27, 2, None, ("last",)), ("none", "last"): (27, 2, "XX", ()),
}
BEGINNING = "0000" "    000" " 0.0    " " 0.0    " "  "
DEEDS = (
    ("load", (("none",), "QQ"), {}, None), ("give", (("number",), (7, 0)), {}, None),
    ("store", (("one", "cents"), (-9, 3)), {"nearest": True}, True),
    ("move", (("number",), ("one", "text")), {"right": True}, None),
    ("move_alike", (("one",), ("half",)), {}, 1), ("move_alike", (("one",), ("none",)), {}, 0),
    ("load", (("none",), "QQ"), {}, None), ("move", (("none",), ("none",)), {}, None),
)
STATES = (
    BEGINNING, "0000" "    000" " 0.0    " " 0.0    " "QQ", "0007" "    000" " 0.0    " " 0.0    " "QQ",
    "0007" "    00q" " 0.0    " " 0.0    " "QQ", "0007" "000700q" " 0.0    " " 0.0    " "QQ",
) + ("0007" "000700q" " 0.0    " " 0.0    " "QQ",) * 4


class BackTest(unittest.TestCase):
    def setUp(self):
        self.area = Area(LAYOUT)
        for at, (deed, things, named, told) in enumerate(DEEDS):
            self.assertEqual(self.area.signs(), STATES[at])
            self.assertEqual(getattr(self.area, deed)(*things, **named), told)
        self.assertEqual(self.area.signs(), STATES[-1])

    def go_back(self, times):
        for turn in range(times):
            self.area.back()

    def test_all_the_way_back_and_forth(self):
        for turn in range(3):
            for at in reversed(range(len(DEEDS))):
                self.assertEqual(self.area.back(), DEEDS[at][0])
                self.assertEqual(self.area.signs(), STATES[at])
            self.assertRaises(NoBack, self.area.back)
            self.assertEqual(self.area.signs(), BEGINNING)
            for at in range(len(DEEDS)):
                self.assertEqual(self.area.again(), DEEDS[at][0])
                self.assertEqual(self.area.signs(), STATES[at + 1])
            self.assertRaises(NoBack, self.area.again)
            self.assertEqual(self.area.signs(), STATES[-1])

    def test_to_and_fro(self):
        for times in range(1, len(DEEDS) + 1):
            word = DEEDS[-times][0]
            self.assertEqual([self.area.back(), self.area.again(), self.area.back()], [word] * 3)
            self.assertEqual(self.area.signs(), STATES[-times - 1])

    def test_none_at_the_beginning(self):
        area = Area(LAYOUT)
        for turn in range(2):
            self.assertRaises(NoBack, area.again)
            self.assertRaises(NoBack, area.back)
        self.assertTrue(area == Area(LAYOUT))

    def test_a_new_deed_behind_a_back(self):
        for deed, things, named, told in DEEDS:
            self.setUp()
            self.go_back(3)
            before = self.area.signs()
            getattr(self.area, deed)(*things, **named)
            after = self.area.signs()
            with self.subTest(deed=deed, things=things):
                self.assertRaises(NoBack, self.area.again)
                self.assertEqual((self.area.signs(), self.area.back()), (after, deed))
                self.assertEqual((self.area.signs(), self.area.again()), (before, deed))
                self.assertEqual(self.area.signs(), after)
                self.assertRaises(NoBack, self.area.again)
                self.go_back(6)
                self.assertEqual(self.area.signs(), BEGINNING)
                self.assertRaises(NoBack, self.area.back)

    def test_what_is_refused_is_no_deed(self):
        self.go_back(2)
        for error, deed, *things in (
            (BadSize, "load", ("none",), "QQQ"), (NoPath, "load", ("nothing",), ""), (NoAmount, "give", ("one",), (5, 0)),
            (NoPath, "give", ("two",), (5, 0)), (NoAmount, "store", (("two", 0), "cents"), (5, 0)),
            (NoPath, "store", (), (5, 0)), (NoPath, "move", ("none",), ("nothing",)), (NoPath, "move", ("x",), ("none",)),
            (NoMove, "move", (("two", 0), "text"), ("number",)), (NoFigures, "move", ("none", "last"), ("number",)),
            (NoLetters, "move", ("one", "text"), (("two", 0), "text")), (NoGroup, "move_alike", ("number",), ("one",)),
            (NoPath, "move_alike", ("one",), ()), (NoLetters, "move_alike", ("one",), (("two", 1),)),
            (NoAmount, "amount", ("none",)), (NoPath, "get", ()),
        ):
            with self.subTest(deed=deed, things=things):
                self.assertRaises(error, getattr(self.area, deed), *things)
                self.assertEqual(self.area.again(), "load")
                self.assertRaises(error, getattr(self.area, deed), *things)
                self.assertEqual(self.area.back(), "load")
                self.assertEqual(self.area.signs(), STATES[-3])
        self.assertEqual([self.area.again(), self.area.again()], ["load", "move"])

    def test_a_store_that_told_false_is_no_deed(self):
        self.go_back(2)
        for word in ("load", "move"):
            self.assertIs(self.area.store(("number",), (10000, 0)), False)
            self.assertEqual(self.area.again(), word)
            self.assertIs(self.area.store(("number",), (99995, 1), nearest=True), False)
        self.assertEqual(self.area.back(), "move")
        self.assertEqual(self.area.signs(), STATES[-2])

    def test_asking_is_no_deed(self):
        self.go_back(1)
        before = (self.area.signs(), len(self.area), str(self.area), self.area == Area(LAYOUT))
        self.assertEqual((self.area.get(("number",)), self.area.amount(("number",))), ("0007", (7, 0)))
        self.assertEqual(before, (STATES[-2], 29, "[" + STATES[-2] + "]", False))
        self.assertEqual(self.area.again(), "move")


class ModelTest(unittest.TestCase):
    """Many deeds, held against a plain row of all signs that there were."""

    def test_many_deeds(self):
        area = Area(LAYOUT)
        states, words, at = [BEGINNING], [], 0
        paths = list(SPOTS)
        number = 1
        seen = set()
        for turn in range(6000):
            # Numbers that jump about, the same in each run.
            number = number * 48271 % 2147483647
            deed = ("load", "give", "store", "move", "move_alike", "back", "back", "again")[number // 7919 % 8]
            things = self.things(deed, paths[number % len(paths)], paths[number // 97 % len(paths)], number)
            told, signs = self.expected(deed, things, states[at])
            if deed == "back":
                told, at = (words[at - 1], at - 1) if at > 0 else (NoBack, at)
            elif deed == "again":
                told, at = (words[at], at + 1) if at < len(words) else (NoBack, at)
            elif signs is not None:
                states[at + 1:], words[at:] = [signs], [deed]
                at += 1
            self.assertEqual(self.outcome(area, deed, things), told, (turn, deed, things))
            self.assertEqual(area.signs(), states[at], (turn, deed, things))
            seen.add((deed, str(told)))
        # All was met: whatever each deed may tell, and its refusals.
        self.assertEqual(len(seen), 28)

    def things(self, deed, path, other, number):
        if deed == "load":
            return path, str(number)[:SPOTS[path][1]].ljust(SPOTS[path][1], "x")
        if deed in ("give", "store"):
            return path, (number % 200000 - 100000, number % 5)
        return () if deed in ("back", "again") else (path, other)

    def outcome(self, area, deed, things):
        try:
            return getattr(area, deed)(*things)
        except BoxError as error:
            return error.__class__

    def expected(self, deed, things, signs):
        """What is told, and the signs behind it, None if it is no deed."""
        if deed in ("back", "again"):
            return None, None
        start, size, picture, names = SPOTS[things[0]]
        if deed == "load":
            return None, self.with_part(signs, things[0], things[1])
        try:
            if deed == "give":
                return None, self.with_part(signs, things[0], self.given(picture, things[1]))
            if deed == "store":
                content = self.stored(picture, things[1])
                return content is not None, None if content is None else self.with_part(signs, things[0], content)
            if deed == "move":
                return None, self.moved(signs, *things)
            return self.moved_alike(signs, *things)
        except BoxError as error:
            return error.__class__, None

    def with_part(self, signs, path, part):
        start, size = SPOTS[path][:2]
        self.assertEqual(len(part), size)
        return signs[:start] + part + signs[start + size:]

    def given(self, picture, amount):
        if picture is None or picture[0] in "XA":
            raise NoAmount
        return move(content_of("S9(9)V9(9)", amount), "S9(9)V9(9)", picture)

    def stored(self, picture, amount):
        if picture not in ("9(4)", "S9V99"):
            raise NoAmount
        return stored(picture, amount)

    def moved(self, signs, path, other):
        start, size, picture, names = SPOTS[path]
        content, other_picture = signs[start:start + size], SPOTS[other][2]
        if picture is None or other_picture is None:
            return self.with_part(signs, other, content.ljust(30)[:SPOTS[other][1]])
        return self.with_part(signs, other, move(content, picture, other_picture))

    def moved_alike(self, signs, path, other):
        if SPOTS[path][2] is not None or SPOTS[other][2] is not None:
            raise NoGroup
        names = [name for name in SPOTS[path][3] if name in SPOTS[other][3]]
        for name in names:
            signs = self.moved(signs, path + (name,), other + (name,))
        return len(names), signs


if __name__ == "__main__":
    unittest.main()
