"""The errors that the package raises; the fields of each are its attributes."""


class SnapError(ArithmeticError):
    """An error of this package."""


class InvalidScheme(SnapError):
    """The base or the factor of a scheme is invalid."""

    def __init__(self, part):
        self.part = part


class InvalidNumber(SnapError):
    """An argument is not a number that the call takes."""

    def __init__(self, number):
        self.number = number


class InvalidTime(SnapError):
    """An argument is not a time that the call takes."""

    def __init__(self, time):
        self.time = time


class InvalidArchive(SnapError):
    """A part of an archive is invalid, at an index or, with -1, as a whole."""

    def __init__(self, part, at):
        self.part = part
        self.at = at


class InvalidBound(SnapError):
    """A bound, an index or a count is outside of its range."""

    def __init__(self, part):
        self.part = part


class LimitExceeded(SnapError):
    """A result would have more items than the limit."""

    def __init__(self, limit):
        self.limit = limit
