"""The errors of the package."""


class PieceError(ValueError):
    """What every error of the package is; its value is what it was constructed with."""

    def __init__(self, value):
        self.value = value


class InvalidBook(PieceError):
    """An object that is no book."""


class InvalidRing(PieceError):
    """An object that is no ring text."""


class InvalidPiece(PieceError):
    """An object that is no piece of the book, or no such text as is asked for in its place."""


class InvalidNumber(PieceError):
    """An integer out of what is told."""


class InvalidSize(PieceError):
    """An object that is no size of windows."""


class NoRing(PieceError):
    """A book that no ring text fits."""


class Endless(PieceError):
    """A book of which each piece is sure, so that none is a longest one."""


class InvalidCounts(PieceError):
    """An object that is no counts for the book."""


class InvalidBounds(PieceError):
    """An object that is no bounds for the book."""


class NotWithin(PieceError):
    """A ring text that is not among those that are asked for."""


class InvalidCosts(PieceError):
    """An object that is no costs for the book."""


class NotBalanced(PieceError):
    """Counts that do not balance, or have a 0."""


class NoRingText(PieceError):
    """Counts that no ring text has."""


class InvalidPlace(PieceError):
    """An object that is no place of the book."""


class InvalidWindows(PieceError):
    """An object that is no such tuple of windows as is asked for."""


class Nothing(PieceError):
    """No deed stands that can be taken back."""


class Empty(PieceError):
    """A live book has no window."""


class Unreadable(PieceError):
    """An object that is the text of no book."""


class InvalidCommand(PieceError):
    """An object that is no command line."""


class NotReady(PieceError):
    """There is no live book yet."""
