"""The whole, 0.2: what the parts promise, together."""

import unittest

from boxmoves.amounts import added, amount_text, cut, multiplied, same
from boxmoves.areas import Area
from boxmoves.editing import edited
from boxmoves.layouts import boxes, signs_in, where
from boxmoves.pictures import size_of
from boxmoves.reports import Report, in_order, report
from boxmoves.writing import layout_text, page_text, read_layout

BILL = (
    ("table", "lines", 5, (
        ("box", "what", "X(6)"), ("box", "many", "999"), ("box", "price", "9(3)V99"), ("box", "cost", "S9(5)V99"),
    )),
    ("over", ("table", "rows", 5, (("box", "row", "X(21)"),))),
    ("group", "sum", (("box", "all", "S9(6)V99"), ("box", "lost", "9"))),
    ("box", "shown", "$$$,$$9.99CR"),
    ("over", ("box", "signs", "X(12)")),
    ("group", "copy", (
        ("box", "what", "X(6)"), ("box", "many", "999"), ("box", "price", "9(3)V99"), ("box", "cost", "S9(5)V99"),
    )),
)
GOODS = (
    ("tea", (3, 0), (2995, 3)), ("rice", (12, 0), (4, 1)), ("salt", (999, 0), (99999, 2)), ("gift", (1, 0), (-5, 0)),
    ("more", (250, 0), (505, 2)),
)


def filled():
    area = Area(BILL)
    for at, (what, many, price) in enumerate(GOODS):
        line = ("lines", at)
        area.load((line, "what"), what.ljust(6))
        area.store((line, "many"), many)
        area.store((line, "price"), price, nearest=True)
        area.store((line, "cost"), multiplied(area.amount((line, "many")), area.amount((line, "price"))))
    return area


def sum_of_costs(area):
    amount = (0, 0)
    for at in range(len(GOODS)):
        amount = added(amount, area.amount((("lines", at), "cost")))
    return amount


class WholeTest(unittest.TestCase):
    def test_stored_in_a_table_and_added_up(self):
        area = filled()
        self.assertEqual([area.amount((("lines", at), "price")) for at in range(5)],
                         [(300, 2), (40, 2), (99999, 2), (500, 2), (505, 2)])
        # 999 times 999.99 has no room before the point; what was there is left.
        self.assertEqual([area.get((("lines", at), "cost")) for at in range(5)],
                         ["0000900", "0000480", "0000000", "0000500", "0126250"])
        self.assertIs(area.store((("lines", 2), "cost"), (99899001, 2)), False)
        self.assertEqual(sum_of_costs(area), (128130, 2))
        self.assertIs(area.store(("sum", "all"), sum_of_costs(area)), True)
        self.assertEqual(area.amount(("sum", "all")), (128130, 2))

    def test_moved_to_edited_figures_and_read_back(self):
        area = filled()
        for amount in ((128130, 2), (-128130, 2), (0, 0), (-1, 2), (99999999, 2), (-7, 5), (12345, 3)):
            self.assertIs(area.store(("sum", "all"), amount), True)
            area.move(("sum", "all"), ("shown",))
            self.assertEqual(area.get(("signs",)), edited("$$$,$$9.99CR", cut(amount, 2)))
            self.assertEqual(area.amount(("sum", "all")), cut(amount, 2))
            kept = area.amount(("shown",))
            self.assertEqual(kept[0], (abs(cut(amount, 2)[0]) % 10 ** 7) * (-1 if cut(amount, 2)[0] < 0 else 1))
            area.move(("shown",), (("lines", 0), "cost"))
            self.assertEqual(area.amount((("lines", 0), "cost")), kept)

    def test_a_group_copied_as_signs(self):
        area = filled()
        before = area.signs()
        for at in range(5):
            area.move((("lines", at),), ("copy",))
            self.assertEqual(area.get(("copy",)), area.get((("rows", at), "row")))
            for name in ("what", "many", "price", "cost"):
                self.assertEqual(area.get(("copy", name)), area.get((("lines", at), name)))
            area.back()
            self.assertEqual(area.move_alike((("lines", at),), ("copy",)), 4)
            self.assertEqual(area.get(("copy",)), area.get((("lines", at),)))
            area.back()
        self.assertEqual(area.signs(), before)

    def test_a_deed_changes_just_its_box(self):
        area = filled()
        for path in boxes(BILL):
            start, size, picture = where(BILL, path)
            self.assertEqual(size, size_of(picture))
            before = area.signs()
            area.load(path, "#" * size)
            self.assertEqual(area.signs(), before[:start] + "#" * size + before[start + size:])
            self.assertEqual(len(area), signs_in(BILL))
            area.back()
            self.assertEqual(area.signs(), before)

    def test_all_deeds_taken_back(self):
        area = filled()
        while area.signs() != Area(BILL).signs():
            area.back()
        many = 0
        while not area == filled():
            area.again()
            many += 1
        self.assertEqual(many, 5 * 3 + 4)

    def test_the_layout_written_and_read(self):
        self.assertEqual(read_layout(layout_text(BILL)), BILL)
        self.assertTrue(Area(read_layout(layout_text(BILL))) == Area(BILL))

    def test_rows_of_an_area_in_a_report(self):
        area = filled()
        plan = (("what", "cost"), (), ("cost",), 6)
        kept = Report(plan)
        for at in range(5):
            kept.put((area.get((("lines", at), "what")).rstrip(), area.amount((("lines", at), "cost"))))
        self.assertTrue(same(kept.so_far()[0], sum_of_costs(area)))
        self.assertEqual([page_text(plan, page) for page in kept.close()], [
            "page 1\nrow tea 9.00\nrow rice 4.80\nrow salt 0.00\nrow gift 5.00\ncarried 18.80\n",
            f"page 2\nbrought 18.80\nrow more 1262.50\ntotal {amount_text(sum_of_costs(area))}\n",
        ])

    def test_sums_in_whatever_order(self):
        plan = (("key", "note", "cost"), ("key",), ("cost",), 6)
        rows = tuple((("x", "y")[at % 2], str(at), (at * at, at % 3)) for at in range(20))
        ordered = [line for page in report(plan, in_order(plan, rows)) for line in page if line[0] in ("foot", "final")]
        other = [line for page in report(plan, in_order(plan, rows[::-1])) for line in page if line[0] in ("foot", "final")]
        self.assertEqual(ordered, other)
        self.assertEqual(len(ordered), 3)
        self.assertEqual(added(ordered[0][3][0], ordered[1][3][0]), ordered[2][1][0])


if __name__ == "__main__":
    unittest.main()
