"""Layouts: how boxes lie in groups, in tables and over one another.

Groups may lie within one another as deep as one likes, so layouts are walked by lists of what is left, not by calls
within calls.
"""

from boxmoves.errors import NoPath
from boxmoves.pictures import is_picture, size_of

SMALL_LETTERS = "abcdefghijklmnopqrstuvwxyz"
LONGEST_NAME = 12
MOST_TIMES = 30


def is_layout(thing):
    """Whether a thing, of any kind, is a layout."""
    layouts = []
    left = [thing]
    while left:
        items = left.pop()
        if not is_row_of_items(items):
            return False
        layouts.append(items)
        left.extend([bare(item)[-1] for item in items if bare(item)[0] != "box"])
    # Signs are counted only here, where all within is known to be well made.
    return all([overs_have_room(items) for items in layouts])


def signs_in(layout):
    """How many signs a layout has."""
    signs = 0
    left = [(layout, 1)]
    while left:
        items, times = left.pop()
        for item in items:
            if item[0] == "box":
                signs += times * size_of(item[2])
            elif item[0] == "group":
                left.append((item[2], times))
            elif item[0] == "table":
                left.append((item[3], times * item[2]))
    return signs


def where(layout, path):
    """(start, size, picture) of what a path tells, the picture None for groups; NoPath, if there is none."""
    start, item = found(layout, path)
    if item[0] == "box":
        return (start, size_of(item[2]), item[2])
    return (start, signs_in(item[-1]), None)


def boxes(layout):
    """The paths of all boxes, in the order of the layout."""
    return tuple(paths_of_boxes(layout, True))


def boxes_alike(layout, path, other):
    """The paths of boxes, without tables, that two groups both have, in the order of the first one."""
    others = set(paths_of_boxes(found(layout, other)[1][-1], False))
    return [way for way in paths_of_boxes(found(layout, path)[1][-1], False) if way in others]


def outline(layout):
    """All items in order, as triples: how deep each lies, whether over others, and it without its own items.

    Two layouts are the same just if their outlines are.
    """
    rows = []
    left = [(0, item) for item in reversed(layout)]
    while left:
        depth, item = left.pop()
        plain = bare(item)
        is_box = plain[0] == "box"
        rows.append((depth, item[0] == "over", plain if is_box else plain[:-1]))
        if not is_box:
            left.extend([(depth + 1, inner) for inner in reversed(plain[-1])])
    return rows


def found(layout, path):
    """From which sign on lies what a path tells, and its item, the table for a table's group; NoPath, if none is."""
    if not isinstance(path, tuple) or len(path) == 0:
        raise NoPath("no step at all")
    start = 0
    items = layout
    item = None
    for step in path:
        ahead, item = item_at(items, step)
        start += ahead
        # Nothing lies within a box, so a step behind it finds nothing.
        items = () if item[0] == "box" else item[-1]
    return start, item


def paths_of_boxes(items, with_tables):
    """A list of the paths of all boxes, or of those alone that lie in no table."""
    paths = []
    left = last_first((), items)
    while left:
        path, item = left.pop()
        if item[0] == "box":
            paths.append(path + (item[1],))
        elif item[0] == "group":
            left.extend(last_first(path + (item[1],), item[2]))
        elif with_tables:
            for number in reversed(range(item[2])):
                left.extend(last_first(path + ((item[1], number),), item[3]))
    return paths


def last_first(path, items):
    """Pairs of the path that leads to some items and each of these, the last one first."""
    return [(path, bare(item)) for item in reversed(items)]


def bare(item):
    """The box, group or table that an item is, or that it lays over another one."""
    return item[1] if item[0] == "over" else item


def is_row_of_items(thing):
    """Whether a thing is a layout, but for what lies within its groups and tables, and over others."""
    if not isinstance(thing, tuple) or len(thing) == 0:
        return False
    if not all([is_item(item) for item in thing]):
        return False
    names = [bare(item)[1] for item in thing]
    return len(set(names)) == len(names)


def is_item(thing):
    """Whether a thing is an item, whatever lies within it."""
    if begins_with_word(thing) and thing[0] == "over":
        return len(thing) == 2 and is_bare_item(thing[1])
    return is_bare_item(thing)


def is_bare_item(thing):
    """Whether a thing is a box, a group or a table, whatever lies within it."""
    if not begins_with_word(thing) or len(thing) < 3 or not is_name(thing[1]):
        return False
    if thing[0] == "table":
        return len(thing) == 4 and is_whole(thing[2]) and 1 <= thing[2] <= MOST_TIMES
    if thing[0] == "box":
        return len(thing) == 3 and is_picture(thing[2])
    return len(thing) == 3 and thing[0] == "group"


def begins_with_word(thing):
    """Whether a thing is a tuple that begins with a text, so that it can be held against the words of items."""
    return isinstance(thing, tuple) and len(thing) > 0 and isinstance(thing[0], str)


def is_name(thing):
    """Whether a thing is a name."""
    return isinstance(thing, str) and 1 <= len(thing) <= LONGEST_NAME and thing.strip(SMALL_LETTERS) == ""


def is_whole(thing):
    """Whether a thing is a whole number, and no truth."""
    return isinstance(thing, int) and not isinstance(thing, bool)


def overs_have_room(items):
    """Whether none that lies over another one has more signs than that, or lies over nothing at all."""
    # At the beginning there is nothing to lie over, and so room for no sign; every item has some.
    under = ()
    for item in items:
        if item[0] != "over":
            under = (item,)
        elif signs_in((item[1],)) > signs_in(under):
            return False
    return True


def item_at(items, step):
    """How many signs lie ahead of what a step tells, and its item; NoPath, if there is none."""
    name, number = step_parts(step)
    under = 0
    for at, item in enumerate(items):
        if item[0] != "over":
            under = at
        if bare(item)[1] == name:
            return signs_in(items[:under]) + ahead_in_table(bare(item), number), bare(item)
    raise NoPath("a name that is not there")


def step_parts(step):
    """The name and the number of a step, the number None if it has none."""
    if isinstance(step, tuple) and len(step) == 2 and is_whole(step[1]):
        return step
    return step, None


def ahead_in_table(item, number):
    """How many signs of a table lie ahead of its group of this number; 0 for no number and no table; else NoPath."""
    if item[0] != "table" and number is None:
        return 0
    if item[0] != "table" or number is None or not 0 <= number < item[2]:
        raise NoPath("a number where there is none, or none where there is one")
    return number * signs_in(item[3])
