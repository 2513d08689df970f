"""The errors of the package: one class for each kind of failure."""


class StrikeError(ValueError):
    """The base of all errors of the package."""


class BadOrder(StrikeError):
    """A value is not an order."""

    def __init__(self, pair):
        self.pair = pair


class RingFound(StrikeError):
    """Links lead from points back to themselves."""

    def __init__(self, points):
        self.points = points


class BadMap(StrikeError):
    """A value is not a rising map."""

    def __init__(self, pair):
        self.pair = pair


class BadStep(StrikeError):
    """A small step is not allowed."""

    def __init__(self, at):
        self.at = at


class NotStrikable(StrikeError):
    """A strike cannot be made when its turn comes."""

    def __init__(self, at):
        self.at = at


class BadFibre(StrikeError):
    """A fibre is not contractible."""

    def __init__(self, point):
        self.point = point


class BadCovering(StrikeError):
    """A value is not a covering table."""

    def __init__(self, pair):
        self.pair = pair


class BadEdit(StrikeError):
    """An edit of a book is not possible."""

    def __init__(self, kind, pair):
        self.kind = kind
        self.pair = pair


class UnknownPoint(StrikeError):
    """A number is not a point of the order."""

    def __init__(self, point):
        self.point = point


class BadLine(StrikeError):
    """A line of a text has another form."""

    def __init__(self, line):
        self.line = line


class NotAbove(StrikeError):
    """A map is not at least another one."""


class NotBelow(StrikeError):
    """A point is not at most another one."""


class NotTaken(StrikeError):
    """An answer is not one that can be used."""


class NotContractible(StrikeError):
    """An order is not contractible."""


class NotOver(StrikeError):
    """A point of a covering does not stand over the point told."""


class NothingLeft(StrikeError):
    """There is no edit to undo or to redo."""


class TooLarge(StrikeError):
    """A size goes beyond what is promised."""
