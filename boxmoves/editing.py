"""Editing: amounts shown as edited figures, and read back from them."""

from boxmoves.amounts import fitted
from boxmoves.errors import NoFigures
from boxmoves.figures import FIGURES, figures_of, number_of, ten_to
from boxmoves.pictures import FLOATING, INSERTED, edited_parts, understood_as

# What stands for the symbols that are no places, and for those that show a sign.
BESIDE = {",": ",", "B": " ", "0": "0", "/": "/", ".": "."}
NOT_BELOW = {"$": "$", "+": "+", "-": " ", "C": " ", "R": " ", "D": " ", "B": " "}
BELOW = {"$": "$", "+": "-", "-": "-", "C": "C", "R": "R", "D": "D", "B": "B"}


def edited(picture, amount):
    """The text of an amount, cut to the room of edited figures; NoRoom, if the picture is none of these."""
    rows, (signed, before, behind) = understood_as("edited", picture)
    lead, body, tail = edited_parts(rows)
    units = fitted(amount, before, behind)
    if units == 0 and hides_nought(body):
        return nought_text(lead + body + tail)
    is_below = units < 0
    return sign_text(lead, is_below) + body_text(body, abs(units), is_below) + sign_text(tail, is_below)


def read_edited(picture, text):
    """The amount that edits so; NoFigures, if there is none, and NoRoom, if the picture is none of edited figures."""
    rows, (signed, before, behind) = understood_as("edited", picture)
    lead, body, tail = edited_parts(rows)
    pairs = [(symbol, sign) for symbol, sign in zip(body, text[len(lead):]) if symbol not in BESIDE]
    # A hidden figure is 0. Whether all other signs are right, the size too, is seen by editing what was read.
    units = number_of("".join([sign if sign in FIGURES else "0" for symbol, sign in pairs]))
    for choice in (units, -units):
        if edited(picture, (choice, behind)) == text:
            return (choice, behind)
    raise NoFigures("no amount is edited so")


def texts_in_all(picture):
    """How many different texts come of editing; NoRoom, if the picture is none of edited figures."""
    rows, (signed, before, behind) = understood_as("edited", picture)
    many = ten_to(before + behind)
    # Where a sign is shown, all amounts but 0 have two texts.
    return 2 * many - 1 if signed else many


def hides_nought(body):
    """Whether the whole text hides 0: no place is 9, and none floats."""
    return "9" not in body and body[0] not in FLOATING


def nought_text(symbols):
    """The text of 0, where all of it is hidden."""
    if "*" not in symbols:
        return " " * len(symbols)
    return "".join(["." if symbol == "." else "*" for symbol in symbols])


def sign_text(symbols, is_below):
    """What symbols of a lead, a tail or a floating row show."""
    return "".join([BELOW[symbol] if is_below else NOT_BELOW[symbol] for symbol in symbols])


def body_text(body, units, is_below):
    """The text of the whole and the broken part, with the figures of units from 0 on."""
    signs = spread(body, units)
    hidden = hidden_in(body, signs)
    place = body[0]
    if place in FLOATING:
        return " " * (hidden - 1) + sign_text(place, is_below) + signs[hidden:]
    return ("*" if place == "*" else " ") * hidden + signs[hidden:]


def spread(body, units):
    """The text with every figure at its place, none hidden."""
    # The first symbol of a floating row gets a nought here, for units has no figure so far ahead; it is always hidden.
    many = len([symbol for symbol in body if symbol not in BESIDE])
    figures = figures_of(units).zfill(many)
    signs = []
    used = 0
    for symbol in body:
        if symbol in BESIDE:
            signs.append(BESIDE[symbol])
        else:
            signs.append(figures[used])
            used += 1
    return "".join(signs)


def hidden_in(body, signs):
    """How many signs, from the left on, are hidden."""
    for at, symbol in enumerate(body):
        # The point ends it too: it is no inserted sign, and no nought.
        if symbol == "9" or (symbol not in INSERTED and signs[at] != "0"):
            return at
    return len(body)
