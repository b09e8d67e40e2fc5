"""Amounts: pairs (units, places), the whole number units over ten to the places."""

from boxmoves.errors import NoQuotient, NoRoom, NoText
from boxmoves.figures import figures_of, is_figures, number_of, ten_to

MOST_PLACES = 18


def same(one, other):
    """Whether two amounts are the same number."""
    first, second, places = lined_up(one, other)
    return first == second


def below(one, other):
    """Whether the first amount is less than the second."""
    first, second, places = lined_up(one, other)
    return first < second


def added(one, other):
    """The sum of two amounts."""
    first, second, places = lined_up(one, other)
    return (first + second, places)


def taken(one, other):
    """The first amount less the second."""
    first, second, places = lined_up(one, other)
    return (first - second, places)


def multiplied(one, other):
    """The product of two amounts, with the places of both; NoRoom, if an amount has not so many."""
    places = one[1] + other[1]
    if places > MOST_PLACES:
        raise NoRoom("a product of more than 18 places")
    return (one[0] * other[0], places)


def divided(one, other, places):
    """The quotient of two amounts, cut to as many places; NoQuotient, if the second is 0."""
    if other[0] == 0:
        raise NoQuotient("a division by 0")
    shift = places + other[1] - one[1]
    return (quotient_cut(one[0] * ten_to(shift), other[0] * ten_to(-shift)), places)


def cut(amount, places):
    """The amount with as many places, all behind them falling away."""
    units, own = amount
    return (quotient_cut(units * ten_to(places - own), ten_to(own - places)), places)


def rounded(amount, places):
    """The nearest amount with as many places, a half away from 0."""
    units, own = amount
    by = ten_to(own - places)
    twice = 2 * abs(units) * ten_to(places - own)
    nearest = (twice + by) // (2 * by)
    return (-nearest if units < 0 else nearest, places)


def fitted(amount, before, behind):
    """The units, at behind places, of the amount with just those figures for which there is room."""
    units = cut(amount, behind)[0]
    kept = abs(units) % ten_to(before + behind)
    return -kept if units < 0 else kept


def amount_text(amount):
    """The writing of an amount."""
    # Places below 0 would be noughts before the point: cut writes them out.
    units, places = cut(amount, max(amount[1], 0))
    figures = figures_of(abs(units)).zfill(places + 1)
    point = len(figures) - places
    sign = "-" if units < 0 else ""
    broken = "." + figures[point:] if places > 0 else ""
    return sign + figures[:point] + broken


def read_amount(text):
    """The amount of which a text is the writing; NoText, if there is none."""
    whole, point, broken = text.removeprefix("-").partition(".")
    if not is_figures(whole + broken) or len(broken) > MOST_PLACES:
        raise NoText("the writing of no amount")
    units = number_of(whole + broken)
    amount = (-units if text.startswith("-") else units, len(broken))
    # An amount has one writing alone: noughts ahead, a bare point, or a minus at 0 are none of it.
    if amount_text(amount) != text:
        raise NoText("not as an amount is written")
    return amount


def lined_up(one, other):
    """The units of both amounts at the greater places of both, and these places."""
    places = max(one[1], other[1])
    return cut(one, places)[0], cut(other, places)[0], places


def quotient_cut(number, by):
    """The whole part of a quotient; // alone would go down from 0 below it."""
    quotient = abs(number) // abs(by)
    return -quotient if (number < 0) != (by < 0) else quotient
