"""Contents of boxes, and what moves from one box to another bring."""

from boxmoves.amounts import cut, fitted, rounded
from boxmoves.editing import edited, read_edited
from boxmoves.errors import NoFigures, NoLetters, NoMove
from boxmoves.figures import FIGURES, figures_of, is_figures, number_of, ten_to
from boxmoves.pictures import MOST_FIGURES, kind_of, room, size_of, understood_as

# The last figure of a content below 0, for 0 to 9.
LAST_BELOW = "pqrstuvwxy"
LETTERS_AND_BLANK = "abcdefghijklmnopqrstuvwxyzABCDEFGHIJKLMNOPQRSTUVWXYZ "
# To which kinds each kind is moved.
MOVES = {
    "number": ("number", "edited", "text"),
    "edited": ("number", "edited", "text"),
    "text": ("number", "edited", "text", "letters"),
    "letters": ("text", "letters"),
}


def content_of(picture, amount):
    """The content of a number's box that an amount, cut to its room, is put into; NoRoom, if it is no number."""
    rows, (signed, before, behind) = understood_as("number", picture)
    units = fitted(amount, before, behind)
    figures = figures_of(abs(units)).zfill(before + behind)
    if signed and units < 0:
        return figures[:-1] + LAST_BELOW[int(figures[-1])]
    return figures


def amount_in(picture, content):
    """The amount in a number's box; NoFigures, if its content tells none, and NoRoom, if it is no number."""
    rows, (signed, before, behind) = understood_as("number", picture)
    if len(content) != before + behind:
        raise NoFigures("a content of another size")
    last = content[-1]
    is_below = signed and last in LAST_BELOW
    figures = content[:-1] + FIGURES[LAST_BELOW.find(last)] if is_below else content
    if not is_figures(figures):
        raise NoFigures("other signs than figures")
    units = number_of(figures)
    return (-units if is_below else units, behind)


def move(content, picture, other, *, right=False):
    """The content of a box of picture, moved to a box of other."""
    source = kind_of(picture)
    target = kind_of(other)
    if target not in MOVES[source]:
        raise NoMove("nothing is moved between boxes of these kinds")
    if target == "number" or target == "edited":
        return put(other, amount_from(content, picture))
    text = figures_from(content, picture) if source == "number" else content
    moved = as_text(text, size_of(other), right)
    if target == "letters" and moved.strip(LETTERS_AND_BLANK) != "":
        raise NoLetters("other signs than letters and blanks")
    return moved


def stored(picture, amount, *, nearest=False):
    """The content that an amount that is worked out becomes, None if there is no room; NoRoom, if it is no number."""
    rows, (signed, before, behind) = understood_as("number", picture)
    result = rounded(amount, behind) if nearest else cut(amount, behind)
    if abs(result[0]) >= ten_to(before + behind):
        return None
    return content_of(picture, result)


def blank(picture):
    """The content of a box at the beginning."""
    kind = kind_of(picture)
    if kind == "number" or kind == "edited":
        return put(picture, (0, 0))
    return " " * size_of(picture)


def put(picture, amount):
    """The content of a box of figures, edited or not, that an amount, cut to its room, is put into."""
    if kind_of(picture) == "number":
        return content_of(picture, amount)
    return edited(picture, amount)


def amount_from(content, picture):
    """The amount that is moved on from a content; NoFigures, if there is none."""
    kind = kind_of(picture)
    if kind == "number":
        return amount_in(picture, content)
    if kind == "edited":
        return read_edited(picture, content)
    figures = content.strip(" ")
    if not is_figures(figures) or len(figures) > MOST_FIGURES:
        raise NoFigures("a text of other signs than one to 18 figures")
    return (number_of(figures), 0)


def figures_from(content, picture):
    """The figures of a number without a broken part, its sign falling away; NoMove, if it has such a part."""
    signed, before, behind = room(picture)
    if behind > 0:
        raise NoMove("a number with a broken part is not moved to a text")
    units, places = amount_in(picture, content)
    return figures_of(abs(units)).zfill(before)


def as_text(text, size, right):
    """A text at the left of as many signs, or at the right, cut or filled with blanks."""
    if right:
        return text[max(len(text) - size, 0):].rjust(size)
    return text[:size].ljust(size)
