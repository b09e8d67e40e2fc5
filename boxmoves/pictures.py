"""Pictures: what signs a box has.

A picture is worked on as its rows, pairs (symbol, how often), with no two rows of the same symbol beside one another.
So a picture written short and one written out are the same from there on, however often a symbol stands.
"""

from boxmoves.errors import NoPicture, NoRoom
from boxmoves.figures import figures_of, is_figures, number_of

INSERTED = ",B0/"
SIGNS = "+-"
FLOATING = "+-$"
PLACES = "9Z*+-$"
NUMBER_FORMS = ("9", "S9", "V9", "SV9", "9V9", "S9V9")
SHOWN = ("+", "-", "CR", "DB")
PLAIN_KINDS = {"X": "text", "A": "letters"}
MOST_FIGURES = 18
MOST_SIGNS = 60
# From so many same symbols on a row is written with brackets.
SHORT_FROM = 5


def unfolded(text):
    """The picture with its symbols written out."""
    rows, facts = understood(text)
    return written_out(rows)


def folded(text):
    """The picture with its long rows of same symbols written with brackets."""
    rows, facts = understood(text)
    return "".join([row_text(symbol, many) for symbol, many in rows])


def is_picture(thing):
    """Whether a thing, of any kind, is a picture."""
    return facts_of(rows_of(thing)) is not None


def kind_of(picture):
    """The kind of a picture: number, edited, text or letters."""
    rows, facts = understood(picture)
    return facts[0]


def room(picture):
    """(signed, before, behind) of a number or edited figures; NoRoom, if the picture is none of these."""
    rows, facts = understood(picture)
    kind, signed, before, behind = facts
    if kind == "text" or kind == "letters":
        raise NoRoom("a picture without figures")
    return (signed, before, behind)


def size_of(picture):
    """How many signs a box of this picture has."""
    rows, facts = understood(picture)
    return sum([many for symbol, many in rows if symbol != "S" and symbol != "V"])


def understood(picture):
    """The rows and the facts of a picture; NoPicture, if it is none."""
    rows = rows_of(picture)
    facts = facts_of(rows)
    if facts is None:
        raise NoPicture("no picture")
    return rows, facts


def understood_as(kind, picture):
    """The rows and the room of a picture of this kind; NoRoom, if it is none."""
    rows = rows_of(picture)
    facts = facts_of(rows)
    if facts is None or facts[0] != kind:
        raise NoRoom("a picture of another kind")
    return rows, facts[1:]


def written_out(rows):
    """The symbols of rows, each as often as it stands."""
    return "".join([symbol * many for symbol, many in rows])


def row_text(symbol, many):
    """A row of same symbols as folded writes it."""
    if many < SHORT_FROM:
        return symbol * many
    return f"{symbol}({figures_of(many)})"


def rows_of(thing):
    """The rows of a text; none at all, if the thing is no text.

    Signs that are no symbols have rows too: they are refused with the forms, none of which has them.
    """
    if not isinstance(thing, str):
        return []
    rows = []
    at = 0
    while at < len(thing):
        symbol = thing[at]
        many, at = times_at(thing, at + 1)
        if rows and rows[-1][0] == symbol:
            many += rows.pop()[1]
        rows.append((symbol, many))
    return rows


def times_at(text, at):
    """How often the symbol just ahead of a place stands, and the place behind that.

    Brackets that stand wrong are left standing, as signs that are no symbols.
    """
    if text[at:at + 1] != "(":
        return 1, at
    end = text.find(")", at)
    number = text[at + 1:max(end, at)]
    if not is_figures(number) or number.startswith("0"):
        return 1, at
    return number_of(number), end + 1


def facts_of(rows):
    """(kind, signed, before, behind) of a picture's rows; None, if they are those of no picture."""
    facts = number_facts(rows)
    if facts is None:
        facts = plain_facts(rows)
    # Edited figures come last: figures that are a number already are none of them.
    if facts is None:
        facts = edited_facts(rows)
    return facts


def number_facts(rows):
    """The facts of a number's rows, or None."""
    if "".join([symbol for symbol, many in rows]) not in NUMBER_FORMS:
        return None
    signed = False
    behind_point = False
    figures = [0, 0]
    for symbol, many in rows:
        if symbol == "9":
            figures[1 if behind_point else 0] = many
        elif many > 1:
            return None
        elif symbol == "S":
            signed = True
        else:
            behind_point = True
    if sum(figures) > MOST_FIGURES:
        return None
    return ("number", signed, figures[0], figures[1])


def plain_facts(rows):
    """The facts of a text's or letters' rows, or None."""
    if len(rows) != 1:
        return None
    symbol, many = rows[0]
    if symbol not in PLAIN_KINDS or many > MOST_SIGNS:
        return None
    return (PLAIN_KINDS[symbol], False, 0, 0)


def edited_facts(rows):
    """The facts of the rows of edited figures, or None."""
    lead, start = lead_of(rows)
    place, many, nines, behind, end = body_of(rows, start)
    tail = tail_of(rows, end)
    if place == "" or behind is None or tail is None:
        return None
    floats = place in FLOATING
    if floats and many < 2:
        return None
    # A sign stands at one place alone; a second $ needs no look, for it would float with the first.
    shown = [part for part in (lead[:1], place, tail) if part in SHOWN]
    if len(shown) > 1:
        return None
    before = many + nines - (1 if floats else 0)
    if before + behind > MOST_FIGURES:
        return None
    return ("edited", len(shown) == 1, before, behind)


def edited_parts(rows):
    """The lead, the whole and the broken part together, and the tail of edited figures, written out."""
    lead, start = lead_of(rows)
    place, many, nines, behind, end = body_of(rows, start)
    return lead, written_out(rows[start:end]), tail_of(rows, end)


def lead_of(rows):
    """The lead of edited figures, perhaps an empty text, and the number of the row behind it."""
    lead = ""
    at = 0
    for choice in (SIGNS, "$"):
        if at < len(rows) and rows[at][0] in choice and not floats_at(rows, at):
            lead += rows[at][0]
            at += 1
    return lead, at


def floats_at(rows, at):
    """Whether the symbol that begins at a row stands there twice or more, with only inserted signs between."""
    symbol, many = rows[at]
    if many > 1:
        return True
    behind = at + 1
    while behind < len(rows) and rows[behind][0] in INSERTED:
        behind += 1
    return behind < len(rows) and rows[behind][0] == symbol


def body_of(rows, at):
    """What whole_part and broken_part tell of the rows from one on, and the row behind both parts."""
    place, many, nines, at = whole_part(rows, at)
    behind, at = broken_part(rows, at, place if nines == 0 else "9")
    return place, many, nines, behind, at


def whole_part(rows, at):
    """The symbol of the first places of the whole part, how many these are, how many 9 follow, and the row behind.

    The symbol is an empty text, if there is no whole part.
    """
    if at >= len(rows) or rows[at][0] not in PLACES:
        return "", 0, 0, at
    place = rows[at][0]
    many, at = places_of(rows, at, place)
    nines, at = places_of(rows, at, "9")
    return place, many, nines, at


def places_of(rows, at, place):
    """How many of a place stand from a row on, inserted signs among and behind them, and the row behind all."""
    many = 0
    while at < len(rows) and (rows[at][0] == place or rows[at][0] in INSERTED):
        if rows[at][0] == place:
            many += rows[at][1]
        at += 1
    return many, at


def broken_part(rows, at, place):
    """How many figures the broken part has, 0 if there is none and None if it is wrong, and the row behind it.

    It may be of 9, or of the one symbol that all places of the whole part are, if this does not float.
    """
    if at >= len(rows) or rows[at][0] != ".":
        return 0, at
    if rows[at][1] > 1 or at + 1 == len(rows):
        return None, at
    symbol, many = rows[at + 1]
    if symbol != "9" and (symbol != place or symbol in FLOATING):
        return None, at
    return many, at + 2


def tail_of(rows, at):
    """The tail of edited figures, perhaps an empty text, if that is all from a row on; else None."""
    if at == len(rows):
        return ""
    tail = "".join([symbol for symbol, many in rows[at:]])
    if tail not in SHOWN or max([many for symbol, many in rows[at:]]) > 1:
        return None
    return tail
