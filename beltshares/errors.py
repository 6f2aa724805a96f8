"""The refusals of the program: each stands under WorkError, and none under another."""


class WorkError(ValueError):
    """Any refusal."""


class NoRatio(WorkError):
    """A ratio was asked for with a bottom of nought."""


class BadBelt(WorkError):
    """A belt's room or pace is out of its bounds."""


class BadKnot(WorkError):
    """A knot's pace, kinds, ins or outs are not as its class asks."""


class BadWork(WorkError):
    """Belts and knots that don't make a work."""


class BadRow(WorkError):
    """A row of a work's text is not good; line is its number, from 1."""

    def __init__(self, line):
        WorkError.__init__(self, f"row {line} is not good")
        self.line = line


class TooLong(WorkError):
    """No round was found within the limit."""


class BadPaces(WorkError):
    """Paces, or a number of ways, that are out of their bounds."""


class TooMany(WorkError):
    """More settings than are gone through."""


class Moving(WorkError):
    """A work that never stands still was asked what it waits for."""
