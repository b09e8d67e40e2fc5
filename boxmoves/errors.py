"""The refusals of the program: one class each, all of them right below BoxError."""


class BoxError(ValueError):
    """Any refusal."""


class NoPicture(BoxError):
    """A text that is no picture."""


class NoRoom(BoxError):
    """A picture of another kind than asked for, or more places than an amount has."""


class NoQuotient(BoxError):
    """A division by 0."""


class NoText(BoxError):
    """A text that is the writing of nothing."""


class NoFigures(BoxError):
    """Signs that are to be figures and are none."""


class NoLetters(BoxError):
    """Signs that are to be letters and are none."""


class NoMove(BoxError):
    """Two kinds of boxes between which nothing is moved."""


class NoPath(BoxError):
    """A path that tells nothing of its layout."""


class NoAmount(BoxError):
    """A box that holds no amount."""


class NoGroup(BoxError):
    """A box where a group is asked for."""


class BadSize(BoxError):
    """Another number of signs than there is room for."""


class NoBack(BoxError):
    """No deed to be taken back or done again."""


class BadRow(BoxError):
    """A thing that is no row of its plan."""


class Closed(BoxError):
    """A report that was closed."""
