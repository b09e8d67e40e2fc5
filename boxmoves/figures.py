"""Figures and whole numbers of any length."""

FIGURES = "0123456789"
# Python's own reading and writing of numbers refuses some thousands of figures, so they go in parts of this length.
PART = 18


def ten_to(many):
    """Ten to the power told; 1, if that is below 0, so that a shift by it leaves a number as it is."""
    power = 1
    for turn in range(many):
        power = power * 10
    return power


def is_figures(text):
    """Whether a text is one or more figures and nothing else."""
    return text != "" and text.strip(FIGURES) == ""


def number_of(text):
    """The whole number that a text of figures tells."""
    number = 0
    for start in range(0, len(text), PART):
        part = text[start:start + PART]
        number = number * ten_to(len(part)) + int(part)
    return number


def figures_of(number):
    """The figures of a whole number from 0 on, without noughts ahead."""
    above = ten_to(PART)
    parts = []
    while number >= above:
        number, part = divmod(number, above)
        parts.append(str(part).zfill(PART))
    parts.append(str(number))
    return "".join(reversed(parts))
