"""Reports: rows put on pages of lines, with sums whenever a key changes.

A value of a row is an amount, which is a tuple, or a text.
"""

from boxmoves.amounts import MOST_PLACES, added, cut, same
from boxmoves.errors import BadRow, Closed
from boxmoves.layouts import is_name, is_whole

SHORTEST_PAGE = 6
FIRST_SIGN = " "
LAST_SIGN = "~"


class Report:
    """Rows that are put together, until the report is closed."""

    def __init__(self, plan):
        self.plan = plan
        self.rows = []
        self.is_closed = False

    def __len__(self):
        return len(self.rows)

    def put(self, row):
        """Takes one more row; BadRow, if it is none, and Closed, if the report was closed."""
        if not is_row(self.plan, row):
            raise BadRow("no row of this plan")
        self.check_open()
        self.rows.append(row)

    def close(self):
        """The pages of all rows; Closed, if the report was closed already."""
        self.check_open()
        pages = report(self.plan, tuple(self.rows))
        self.is_closed = True
        return pages

    def so_far(self):
        """The sums of all rows."""
        return sums_of(self.plan, self.rows)

    def check_open(self):
        """Closed, if the report was closed."""
        if self.is_closed:
            raise Closed("the report was closed")


def is_plan(thing):
    """Whether a thing, of any kind, is a plan."""
    if not isinstance(thing, tuple) or len(thing) != 4:
        return False
    columns, keys, sums, long = thing
    if not are_names(columns) or not are_names(keys) or not are_names(sums) or len(columns) == 0:
        return False
    used = keys + sums
    if len(set(used)) != len(used) or not all([name in columns for name in used]):
        return False
    return is_whole(long) and long >= SHORTEST_PAGE


def is_row(plan, thing):
    """Whether a thing, of any kind, is a row of a plan."""
    columns, keys, sums, long = plan
    if not isinstance(thing, tuple) or len(thing) != len(columns):
        return False
    return all([is_amount(value) or (name not in sums and is_text(value)) for name, value in zip(columns, thing)])


def breaks(plan, rows):
    """The lines of rows, with feet where keys change, and the final sums."""
    keys = plan[1]
    lines = []
    # The sums of the rows since the last foot of each key; with a foot come those of all keys behind it.
    since = [no_sums(plan)] * len(keys)
    for at, row in enumerate(rows):
        if at > 0:
            first = unlike_from(plan, rows[at - 1], row)
            lines.extend(feet(plan, rows[at - 1], since, first))
            since[first:] = [no_sums(plan)] * (len(keys) - first)
        lines.append(("row", row))
        since = [with_row(plan, amounts, row) for amounts in since]
    if len(rows) > 0:
        lines.extend(feet(plan, rows[-1], since, 0))
    lines.append(("final", sums_of(plan, rows)))
    return tuple(lines)


def report(plan, rows):
    """The pages of all rows."""
    lines = breaks(plan, rows)
    pages = []
    amounts = no_sums(plan)
    start = 0
    while start < len(lines):
        top = page_top(plan, len(pages) + 1, amounts)
        end = start + lines_on_page(plan, len(top), len(lines) - start)
        body = lines[start:end]
        for line in body:
            if line[0] == "row":
                amounts = with_row(plan, amounts, line[1])
        pages.append(top + shown(plan, body) + page_bottom(plan, end == len(lines), amounts))
        start = end
    return tuple(pages)


def in_order(plan, rows):
    """The rows by their keys, rising, equal ones as they were."""
    spots = spots_of(plan, plan[1])
    # Amounts are held against one another as whole numbers, at places that none of them exceeds.
    places = max([row[at][1] for row in rows for at in spots if is_pair(row[at])], default=0)
    return tuple(sorted(rows, key=lambda row: [rank(row[at], places) for at in spots]))


def are_names(thing):
    """Whether a thing is a tuple of names, unlike."""
    if not isinstance(thing, tuple) or not all([is_name(name) for name in thing]):
        return False
    return len(set(thing)) == len(thing)


def is_amount(thing):
    """Whether a thing is an amount."""
    if not isinstance(thing, tuple) or len(thing) != 2:
        return False
    return is_whole(thing[0]) and is_whole(thing[1]) and 0 <= thing[1] <= MOST_PLACES


def is_text(thing):
    """Whether a thing is a text."""
    return isinstance(thing, str) and all([FIRST_SIGN <= sign <= LAST_SIGN for sign in thing])


def is_pair(value):
    """Whether a row's value is an amount, and no text."""
    return isinstance(value, tuple)


def spots_of(plan, names):
    """At which places of a row these columns stand."""
    columns = plan[0]
    return [columns.index(name) for name in names]


def no_sums(plan):
    """The sums of no row."""
    return tuple([(0, 0) for name in plan[2]])


def with_row(plan, amounts, row):
    """The sums with one more row."""
    return tuple([added(amount, row[at]) for amount, at in zip(amounts, spots_of(plan, plan[2]))])


def sums_of(plan, rows):
    """The sums of rows."""
    amounts = no_sums(plan)
    for row in rows:
        amounts = with_row(plan, amounts, row)
    return amounts


def unlike_from(plan, one, other):
    """The number of the first key in which two rows are unlike; that of all keys, if there is none."""
    for level, at in enumerate(spots_of(plan, plan[1])):
        if not is_alike(one[at], other[at]):
            return level
    return len(plan[1])


def is_alike(one, other):
    """Whether two values are the same, amounts by their numbers."""
    if is_pair(one) and is_pair(other):
        return same(one, other)
    return one == other


def feet(plan, row, since, first):
    """The feet behind a row, from the last key up to the first one told."""
    keys = plan[1]
    values = tuple([row[at] for at in spots_of(plan, keys)])
    return [("foot", keys[level], values[:level + 1], since[level]) for level in reversed(range(first, len(keys)))]


def page_top(plan, page, amounts):
    """The lines with which a page begins."""
    head = (("head", page),)
    if page == 1 or len(plan[2]) == 0:
        return head
    return head + (("brought", amounts),)


def page_bottom(plan, is_last, amounts):
    """The lines with which a page ends."""
    if is_last or len(plan[2]) == 0:
        return ()
    return (("carried", amounts),)


def lines_on_page(plan, ahead, left):
    """How many of the lines that are left stand on a page, behind those with which it begins."""
    columns, keys, sums, long = plan
    if left <= long - ahead:
        return left
    # A page too short for any line has one nevertheless, or there would be no end of pages.
    return max(long - ahead - (1 if len(sums) > 0 else 0), 1)


def shown(plan, lines):
    """The lines of a page, in rows right behind other rows the columns of all keys None."""
    told = []
    for at, line in enumerate(lines):
        if at > 0 and line[0] == "row" and lines[at - 1][0] == "row":
            told.append(("row", without_keys(plan, line[1])))
        else:
            told.append(line)
    return tuple(told)


def without_keys(plan, row):
    """A row with None in the columns of all keys."""
    return tuple([None if name in plan[1] else value for name, value in zip(plan[0], row)])


def rank(value, places):
    """What a value is ordered by: amounts by their numbers, ahead of texts."""
    return (0, cut(value, places)[0], "") if is_pair(value) else (1, 0, value)
