"""Points 6.1 to 6.3, 6.5 and 6.6, with 0.2 (g) and (h)."""

import itertools
import unittest
from fractions import Fraction
from unittest import mock

from boxmoves.errors import BadRow, Closed
from boxmoves.reports import Report, breaks, in_order, is_plan, is_row, report

PLAN = (("town", "shop", "item", "many", "cents"), ("town", "shop"), ("cents", "many"), 8)
ROWS = (
    ("Ulm", "a", "tea", (1, 0), (250, 2)), ("Ulm", "a", "rice", (2, 0), (-5, 1)), ("Ulm", "b", "tea", (3, 0), (1, 0)),
    ("Bonn", "b", "tea", (4, 0), (125, 3)), ("Bonn", "b", "salt", (5, 0), (0, 0)), ("Ulm", "b", "tea", (6, 0), (75, 2)),
)
ODD_THINGS = (
    None, True, False, 0, 1, 6, -1, 1.5, "", "a", "abc", b"a", (), [], {}, set(), ((),), ("a",), [("a",)], object(), str,
    range(3), mock.ANY, (mock.ANY,) * 4, (None,) * 4,
)


def value(amount):
    return Fraction(amount[0], 10 ** amount[1])


def total(rows, at):
    """The sum of a column, its places being the most of all."""
    places = max([row[at][1] for row in rows], default=0)
    return (int(sum(value(row[at]) for row in rows) * 10 ** places), places)


def totals(plan, rows):
    return tuple(total(rows, plan[0].index(name)) for name in plan[2])


def number_of(thing):
    return value(thing) if isinstance(thing, tuple) else thing


def expected_breaks(plan, rows, level=0):
    """The lines of rows that are alike in the first keys, by splitting them at each key."""
    if level == len(plan[1]):
        return [("row", row) for row in rows]
    at = plan[0].index(plan[1][level])
    lines = []
    for key, group in itertools.groupby(rows, key=lambda row: number_of(row[at])):
        group = list(group)
        values = tuple(group[-1][plan[0].index(name)] for name in plan[1][:level + 1])
        lines += expected_breaks(plan, group, level + 1)
        lines.append(("foot", plan[1][level], values, totals(plan, group)))
    return lines


class PlanTest(unittest.TestCase):
    def check(self, told, *things):
        for thing in things:
            with self.subTest(thing=thing):
                self.assertIs(is_plan(thing), told)

    def test_plans(self):
        self.check(
            True, PLAN, (("a",), (), (), 6), (("a",), ("a",), (), 6), (("a",), (), ("a",), 6), (("a", "b"), ("b",), ("a",), 7),
            (("a", "b", "c"), ("c", "a"), ("b",), 60), (("a", "b", "c"), ("c", "b", "a"), (), 10 ** 30),
            (("abcdefghijkl", "z"), (), ("z", "abcdefghijkl"), 6), (("a", "b"), (), ("b", "a"), 6),
        )

    def test_parts_too_many_or_too_few(self):
        self.check(False, PLAN[:3], PLAN[1:], PLAN + (6,), PLAN + ((),), PLAN[:1], (PLAN,), list(PLAN), PLAN[::-1])

    def test_columns(self):
        for columns in ((), ("a", "a"), ("a", "b", "a"), ["a"], ["a", "b"], "a", "ab", None, {"a": 1}, ("a", None), ("a", 1),
                        ("a", True), ("a", ("b",)), ("a", ["b"]), ("a", b"b"), ("a", mock.ANY)):
            self.check(False, (columns, (), (), 6), (columns, ("a",), (), 6), (columns, (), ("a",), 6))

    def test_names(self):
        for name in ("", "A", "aB", "a1", "1", "a b", " a", "a_b", "a-b", "a\n", "abcdefghijklm", "\u00e9", "\u00df", "."):
            self.check(False, ((name,), (), (), 6), (("a", name), ("a",), (), 6), (("a", name), (name,), (), 6))
        for name in ("a", "z", "row", "abcdefghijkl"):
            self.check(True, ((name,), (), (), 6), ((name,), (name,), (), 6), ((name,), (), (name,), 6))

    def test_keys_and_sums(self):
        columns = ("a", "b", "c")
        for names in (("d",), ("a", "d"), ("a", "a"), ("b", "c", "b"), ["a"], "a", "abc", None, True, ("a", None), (1,), 0,
                      (("a",),), ("a", ["b"]), {"a": 1}, ("A",), ("",), (mock.ANY,), ("a", "b", "c", "a"), {"a"}, []):
            self.check(False, (columns, names, (), 6), (columns, (), names, 6))

    def test_none_in_both(self):
        columns = ("a", "b", "c")
        self.check(
            False, (columns, ("a",), ("a",), 6), (columns, ("a", "b"), ("c", "b"), 6), (columns, columns, ("b",), 6),
            (columns, ("c",), columns, 6), (columns, columns, columns, 6),
        )
        self.check(True, (columns, ("a", "b"), ("c",), 6), (columns, ("b",), ("c", "a"), 6))

    def test_long(self):
        for long in (6, 7, 8, 100, 10 ** 40):
            self.check(True, (("a",), (), (), long))
        for long in (5, 1, 0, -6, True, False, None, "6", "", 6.0, 7.5, (6,), [6], b"6", mock.ANY):
            self.check(False, (("a",), (), (), long))

    def test_things_of_any_kind(self):
        self.check(False, *ODD_THINGS)


class RowTest(unittest.TestCase):
    def check(self, plan, told, *things):
        for thing in things:
            with self.subTest(thing=thing):
                self.assertIs(is_row(plan, thing), told)

    def test_rows(self):
        self.check(PLAN, True, *ROWS)
        self.check(PLAN, True, ("", " ~", (5, 3), (0, 18), (-(10 ** 40), 0)), ((1, 0), (1, 0), (1, 0), (1, 0), (1, 0)))
        self.check((("a",), (), (), 6), True, ("",), ("abc",), ((1, 0),), ((0, 18),))

    def test_parts_too_many_or_too_few(self):
        row = ROWS[0]
        self.check(PLAN, False, row[:-1], row[1:], row + ("a",), row + ((1, 0),), (), list(row), (row,), row[::-1])
        self.check((("a",), (), (), 6), False, (), ("a", "b"), "a", ["a"])
        self.check((("a", "b"), (), (), 6), False, "ab", ("a",), ("a", "b", "c"))

    def test_what_is_no_amount(self):
        wrong = (
            (1,), (1, 0, 0), (), (1, -1), (1, 19), (1, 100), (True, 0), (1, True), (False, 0), (1, False), ("1", 0), (1, "0"),
            (1.0, 0), (1, 0.0), (None, 0), (1, None), [1, 0], ((1, 0), 0), None, True, False, 0, 5, 1.5, b"a", {}, [], object(),
            ("a", "b"), (mock.ANY, 0), (0, mock.ANY), mock.ANY,
        )
        for thing in wrong:
            for at in range(5):
                self.check(PLAN, False, ROWS[0][:at] + (thing,) + ROWS[0][at + 1:])

    def test_amounts_and_texts_where_they_may_stand(self):
        for at in range(5):
            for thing in ((0, 0), (1, 18), (-5, 2), (10 ** 50, 0)):
                self.check(PLAN, True, ROWS[0][:at] + (thing,) + ROWS[0][at + 1:])
            for thing in ("", "a", "5", "0.5", " ", "~"):
                self.check(PLAN, at < 3, ROWS[0][:at] + (thing,) + ROWS[0][at + 1:])

    def test_signs_of_texts(self):
        for sign in ("\n", "\t", "\x1f", "\x7f", "\u00e9", "a\n", "\na", "a\u20acb"):
            self.check((("a", "b"), ("a",), (), 6), False, (sign, "b"), ("a", sign))
        every = "".join(chr(code) for code in range(32, 127))
        self.check((("a", "b"), ("a",), (), 6), True, (every, ""), ("", every))

    def test_things_of_any_kind(self):
        for thing in ODD_THINGS:
            if thing != ("a",):
                self.check((("a",), (), (), 6), False, thing)
            self.check(PLAN, False, thing)
        self.check((("a",), (), (), 6), True, ("a",))


class BreaksTest(unittest.TestCase):
    def test_several_keys(self):
        self.assertEqual(breaks(PLAN, ROWS), (
            ("row", ROWS[0]), ("row", ROWS[1]),
            ("foot", "shop", ("Ulm", "a"), ((200, 2), (3, 0))),
            ("row", ROWS[2]),
            ("foot", "shop", ("Ulm", "b"), ((1, 0), (3, 0))), ("foot", "town", ("Ulm",), ((300, 2), (6, 0))),
            ("row", ROWS[3]), ("row", ROWS[4]),
            ("foot", "shop", ("Bonn", "b"), ((125, 3), (9, 0))), ("foot", "town", ("Bonn",), ((125, 3), (9, 0))),
            ("row", ROWS[5]),
            ("foot", "shop", ("Ulm", "b"), ((75, 2), (6, 0))), ("foot", "town", ("Ulm",), ((75, 2), (6, 0))),
            ("final", ((3875, 3), (21, 0))),
        ))

    def test_no_row(self):
        self.assertEqual(breaks(PLAN, ()), (("final", ((0, 0), (0, 0))),))
        self.assertEqual(breaks((("a",), ("a",), (), 6), ()), (("final", ()),))
        self.assertEqual(breaks((("a",), (), (), 6), ()), (("final", ()),))

    def test_one_row(self):
        sums = (((250, 2), (1, 0)),)
        self.assertEqual(breaks(PLAN, ROWS[:1]), (
            ("row", ROWS[0]), ("foot", "shop", ("Ulm", "a")) + sums, ("foot", "town", ("Ulm",)) + sums, ("final",) + sums,
        ))

    def test_no_key(self):
        plan = (("a", "b"), (), ("b",), 6)
        rows = (("x", (1, 0)), ("y", (2, 1)), ("x", (3, 2)))
        lines = (("row", rows[0]), ("row", rows[1]), ("row", rows[2]), ("final", ((123, 2),)))
        self.assertEqual(breaks(plan, rows), lines)

    def test_no_sums(self):
        plan = (("a", "b"), ("b",), (), 6)
        rows = (("x", (1, 0)), ("y", "1"), ("x", "1"))
        self.assertEqual(breaks(plan, rows), (
            ("row", rows[0]), ("foot", "b", ((1, 0),), ()), ("row", rows[1]), ("row", rows[2]), ("foot", "b", ("1",), ()),
            ("final", ()),
        ))

    def test_keys_in_another_order_than_columns(self):
        plan = (("a", "b", "c"), ("c", "a"), ("b",), 6)
        rows = (("x", (1, 0), "p"), ("y", (2, 0), "p"), ("y", (4, 0), "q"))
        self.assertEqual(breaks(plan, rows), (
            ("row", rows[0]), ("foot", "a", ("p", "x"), ((1, 0),)),
            ("row", rows[1]), ("foot", "a", ("p", "y"), ((2, 0),)), ("foot", "c", ("p",), ((3, 0),)),
            ("row", rows[2]), ("foot", "a", ("q", "y"), ((4, 0),)), ("foot", "c", ("q",), ((4, 0),)),
            ("final", ((7, 0),)),
        ))

    def test_sums_in_another_order_than_columns(self):
        plan = (("a", "b", "c"), (), ("c", "a"), 6)
        rows = (((1, 0), "x", (10, 0)), ((2, 0), "x", (20, 0)))
        self.assertEqual(breaks(plan, rows)[-1], ("final", ((30, 0), (3, 0))))

    def test_the_same_number_of_other_places_is_no_break(self):
        plan = (("a", "b"), ("a",), ("b",), 6)
        rows = (((15, 1), (1, 0)), ((150, 2), (2, 0)), ((1500, 3), (3, 0)), ((15, 0), (4, 0)), ("15", (5, 0)), ("15.0", (6, 0)))
        self.assertEqual(breaks(plan, rows), (
            ("row", rows[0]), ("row", rows[1]), ("row", rows[2]),
            # The values are those of the row just ahead.
            ("foot", "a", ((1500, 3),), ((6, 0),)), ("row", rows[3]), ("foot", "a", ((15, 0),), ((4, 0),)),
            ("row", rows[4]), ("foot", "a", ("15",), ((5, 0),)), ("row", rows[5]), ("foot", "a", ("15.0",), ((6, 0),)),
            ("final", ((21, 0),)),
        ))
        rows = (((0, 0), (1, 0)), ((0, 18), (1, 0)), ("", (1, 0)))
        self.assertEqual([line[0] for line in breaks(plan, rows)], ["row", "row", "foot", "row", "foot", "final"])

    def test_breaks_in_the_first_and_in_the_last_key(self):
        plan = (("a", "b", "c", "n"), ("a", "b", "c"), ("n",), 6)
        for first, second, feet in (
            ("xxx", "xxx", ""), ("xxx", "xxy", "c"), ("xxx", "xyx", "cb"), ("xxx", "xyy", "cb"), ("xxx", "yxx", "cba"),
            ("xxx", "yyx", "cba"), ("xxx", "yxy", "cba"), ("xxx", "yyy", "cba"),
        ):
            rows = (tuple(first) + ((1, 0),), tuple(second) + ((2, 0),))
            lines = breaks(plan, rows)
            with self.subTest(second=second):
                between = lines[1:-5]
                self.assertEqual([line[1] for line in between], list(feet))
                self.assertEqual([line[1] for line in lines[-4:-1]], ["c", "b", "a"])
                self.assertEqual([line[3] for line in between], [((1, 0),)] * len(feet))

    def test_against_splitting(self):
        plan = (("a", "n", "b", "m", "c"), ("c", "a", "b"), ("m", "n"), 6)
        choices = ("x", "y", (1, 0), (10, 1), (2, 0))
        number = 1
        for turn in range(300):
            rows = []
            for at in range(turn % 13):
                number = number * 48271 % 2147483647
                keys = [choices[number // by % len(choices)] for by in (7, 53, 401)]
                sums = ((number // 11 % 2001 - 1000, number // 13 % 4), (number % 100, number // 17 % 3))
                rows.append((keys[0], sums[0], keys[1], sums[1], keys[2]))
            for order in (tuple(rows), in_order(plan, tuple(rows))):
                lines = expected_breaks(plan, order) + [("final", totals(plan, order))]
                self.assertEqual(breaks(plan, order), tuple(lines))
                self.check_sums(plan, order, lines)

    def check_sums(self, plan, rows, lines):
        """The sums of all feet of a key come to the final ones."""
        for key in plan[1]:
            for at in range(len(plan[2])):
                came = sum(value(line[3][at]) for line in lines if line[0] == "foot" and line[1] == key)
                self.assertEqual(came, value(lines[-1][1][at]))

    def test_whatever_the_order_of_rows_with_equal_keys(self):
        rows = (("x", "p", "i", (1, 0), (15, 1)), ("x", "p", "j", (20, 1), (7, 2)), ("x", "p", "k", (-3, 0), (1, 3)))
        feet = {
            tuple(line for line in breaks(PLAN, order) if line[0] != "row") for order in itertools.permutations(rows)
        }
        self.assertEqual(len(feet), 1)

    def test_rows_are_not_changed(self):
        rows = ROWS
        breaks(PLAN, rows), report(PLAN, rows), in_order(PLAN, rows)
        self.assertEqual(rows[0], ("Ulm", "a", "tea", (1, 0), (250, 2)))
        self.assertEqual(breaks(PLAN, rows), breaks(PLAN, rows))


class InOrderTest(unittest.TestCase):
    def check(self, plan, rows, order):
        self.assertEqual(in_order(plan, tuple(rows)), tuple(order))

    def test_amounts_ahead_of_texts(self):
        plan = (("a",), ("a",), (), 6)
        order = (
            ((-(10 ** 30), 0),), ((-1, 0),), ((-99, 2),), ((0, 5),), ((1, 18),), ((9, 1),), ((1, 0),), ((15, 1),), ((2, 0),),
            ((10, 0),), ((10 ** 30, 0),), ("",), (" ",), ("!",), ("-1",), ("0",), ("10",), ("2",), ("A",), ("B",), ("a",),
            ("aa",), ("ab",), ("b",), ("~",),
        )
        self.check(plan, order, order)
        self.check(plan, order[::-1], order)
        self.check(plan, order[1::2] + order[::2], order)

    def test_equal_ones_as_they_were(self):
        plan = (("a", "b"), ("a",), (), 6)
        rows = (((20, 1), "z"), ("x", "q"), ((2, 0), "y"), ((1, 0), "k"), ("x", "p"), ((200, 2), "x"), ((10, 1), "a"))
        self.check(plan, rows, (rows[3], rows[6], rows[0], rows[2], rows[5], rows[1], rows[4]))

    def test_several_keys(self):
        plan = (("a", "b", "c"), ("c", "a"), (), 6)
        rows = (
            ("b", "1", "y"), ("a", "2", "y"), ("a", "3", "x"), ("b", "4", (1, 0)), ("a", "5", "y"), ((3, 0), "6", "x"),
            ((30, 1), "7", "x"), ((2, 0), "8", "y"), ("c", "9", (10, 1)), ("a", "0", (1, 0)),
        )
        self.assertEqual("".join(row[1] for row in in_order(plan, rows)), "0496738251")

    def test_no_key_and_no_row(self):
        self.check((("a",), (), (), 6), (("b",), ("a",)), (("b",), ("a",)))
        self.check(PLAN, (), ())
        self.assertEqual(in_order(PLAN, ROWS), tuple(ROWS[at] for at in (3, 4, 0, 1, 2, 5)))

    def test_as_by_holding_each_against_each(self):
        plan = (("a", "b", "n"), ("a", "b"), ("n",), 6)
        values = ((1, 0), (10, 1), (5, 1), (-5, 1), "", "a", "1")
        rows = [(one, other, (at, 0)) for at, (one, other) in enumerate(itertools.product(values, values))]
        rows = rows[::2] + rows[1::2]

        def place(row):
            return [(0, number_of(thing)) if isinstance(thing, tuple) else (1, thing) for thing in row[:2]]

        left, order = list(rows), []
        while left:
            least = left[0]
            for row in left:
                if place(row) < place(least):
                    least = row
            left.remove(least)
            order.append(least)
        self.check(plan, rows, order)

    def test_ordered_rows_have_one_foot_for_each_value(self):
        feet = [line[2] for line in breaks(PLAN, in_order(PLAN, ROWS)) if line[0] == "foot" and line[1] == "town"]
        self.assertEqual(feet, [("Bonn",), ("Ulm",)])


class ReportTest(unittest.TestCase):
    def filled(self, rows):
        kept = Report(PLAN)
        for row in rows:
            self.assertIsNone(kept.put(row))
        return kept

    def test_no_row(self):
        kept = Report(PLAN)
        self.assertEqual((len(kept), kept.so_far()), (0, ((0, 0), (0, 0))))
        self.assertEqual(kept.close(), report(PLAN, ()))
        self.assertEqual(Report((("a",), (), (), 6)).so_far(), ())

    def test_put_and_so_far(self):
        kept = Report(PLAN)
        for many, row in enumerate(ROWS):
            self.assertEqual((len(kept), kept.so_far()), (many, totals(PLAN, ROWS[:many])))
            self.assertIsNone(kept.put(row))
        self.assertEqual((len(kept), kept.so_far()), (6, ((3875, 3), (21, 0))))

    def test_close(self):
        for many in range(len(ROWS) + 1):
            kept = self.filled(ROWS[:many])
            self.assertEqual(kept.close(), report(PLAN, ROWS[:many]))
            self.assertEqual((len(kept), kept.so_far()), (many, totals(PLAN, ROWS[:many])))

    def test_the_same_row_twice(self):
        kept = self.filled((ROWS[0], ROWS[0]))
        self.assertEqual((len(kept), kept.so_far()), (2, ((500, 2), (2, 0))))

    def test_rows_in_the_order_in_which_they_were_put(self):
        rows = ROWS[::-1]
        self.assertEqual(self.filled(rows).close(), report(PLAN, rows))

    def test_bad_row(self):
        kept = self.filled(ROWS[:2])
        for row in (
            (), ROWS[2][:-1], list(ROWS[2]), ROWS[2] + ("a",), ROWS[2][:3] + ("a", (1, 0)), ("a", "b", "c", (1, 19), (1, 0)),
            ("a", "b", "c", (True, 0), (1, 0)), ("a", None, "c", (1, 0), (1, 0)), None, "row", mock.ANY,
        ):
            with self.subTest(row=row):
                self.assertRaises(BadRow, kept.put, row)
                self.assertEqual((len(kept), kept.so_far()), (2, totals(PLAN, ROWS[:2])))
        self.assertEqual(kept.close(), report(PLAN, ROWS[:2]))

    def test_closed(self):
        kept = self.filled(ROWS[:3])
        kept.close()
        for turn in range(2):
            self.assertRaises(Closed, kept.put, ROWS[3])
            self.assertRaises(Closed, kept.close)
            self.assertEqual((len(kept), kept.so_far()), (3, totals(PLAN, ROWS[:3])))

    def test_bad_row_comes_ahead_of_closed(self):
        kept = self.filled(())
        kept.close()
        for row in ((), None, ROWS[0][1:], list(ROWS[0])):
            self.assertRaises(BadRow, kept.put, row)
        self.assertRaises(Closed, kept.put, ROWS[0])
        self.assertEqual(len(kept), 0)

    def test_reports_are_apart(self):
        one, other = Report(PLAN), Report(PLAN)
        one.put(ROWS[0])
        one.close()
        other.put(ROWS[1])
        self.assertEqual((len(one), len(other), other.so_far()), (1, 1, ((-5, 1), (2, 0))))


if __name__ == "__main__":
    unittest.main()
