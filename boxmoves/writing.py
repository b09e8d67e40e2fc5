"""Writings: layouts as texts, read back too, and pages of reports as texts."""

from boxmoves.amounts import amount_text
from boxmoves.errors import NoText
from boxmoves.figures import figures_of, is_figures, number_of
from boxmoves.layouts import is_layout, outline

INDENT = "  "


def layout_text(layout):
    """The writing of a layout."""
    return "".join([item_text(depth, is_over, parts) for depth, is_over, parts in outline(layout)])


def read_layout(text):
    """The layout of which a text is the writing; NoText, if there is none."""
    layout = layout_from(text.split("\n")[:-1])
    # Lines are taken apart without much care, so what they tell is held against its own writing.
    if not is_layout(layout) or layout_text(layout) != text:
        raise NoText("the writing of no layout")
    return layout


def page_text(plan, page):
    """The writing of a page."""
    return "".join([line_text(line) for line in page])


def item_text(depth, is_over, parts):
    """The line of an item, of which parts are all but its own items."""
    words = [part if isinstance(part, str) else figures_of(part) for part in parts]
    return INDENT * depth + ("over " if is_over else "") + " ".join(words) + "\n"


def layout_from(lines):
    """The layout that lines tell. One that lies too deep is taken into the last group or table nevertheless."""
    # The groups and tables that still take items, from the outermost on; the first stands for the whole.
    opened = [(False, (), [])]
    for line in lines:
        depth = (len(line) - len(line.lstrip(" "))) // len(INDENT)
        while len(opened) > depth + 1:
            close_last(opened)
        is_over, parts = parts_of(line)
        if parts[0] == "group" or parts[0] == "table":
            opened.append((is_over, parts, []))
        else:
            opened[-1][2].append(whole_item(is_over, parts))
    while len(opened) > 1:
        close_last(opened)
    return tuple(opened[0][2])


def close_last(opened):
    """Puts the last group or table that takes items, with all of them, among those of the one around it."""
    is_over, parts, items = opened.pop()
    opened[-1][2].append(whole_item(is_over, parts + (tuple(items),)))


def whole_item(is_over, item):
    """An item, laid over another one if that is told."""
    return ("over", item) if is_over else item


def parts_of(line):
    """Whether a line's item lies over another one, and its parts, all but its own items."""
    words = line.lstrip(" ").split(" ")
    is_over = words[0] == "over" and len(words) > 1
    parts = words[1:] if is_over else words
    if parts[0] == "table" and is_figures(parts[-1]):
        parts[-1] = number_of(parts[-1])
    return is_over, tuple(parts)


def line_text(line):
    """A page's line as it is written."""
    return " ".join(line_words(line)) + "\n"


def line_words(line):
    """What stands in a page's line, with blanks between."""
    word = line[0]
    if word == "head":
        return ["page", str(line[1])]
    if word == "foot":
        return [" ".join([word, line[1]] + value_words(line[2])) + ":"] + value_words(line[3])
    return ["total" if word == "final" else word] + value_words(line[1])


def value_words(values):
    """Values of a row, or amounts, as they are written."""
    return [value_text(value) for value in values]


def value_text(value):
    """A text, an amount, or None as it is written."""
    if value is None:
        return "."
    return amount_text(value) if isinstance(value, tuple) else value
