"""The errors of the package; each one is a direct subclass of TwinError.

The message of an error with a field is the field alone: Python makes copies of an error from its
message, and so they tell the same as the first one.
"""


class TwinError(ValueError):
    """What every error of the package is."""


class InvalidSize(TwinError):
    """A size is no integer from 1 to 8."""


class InvalidCells(TwinError):
    """Cells are no list of cells; index is that of the first wrong item, or None."""

    def __init__(self, index):
        TwinError.__init__(self, str(index))
        self.index = index


class InvalidRow(TwinError):
    """Leaving slots are no row; index is that of the first wrong item, or None."""

    def __init__(self, index):
        TwinError.__init__(self, str(index))
        self.index = index


class InvalidCrossings(TwinError):
    """Crossing slots are wrong; index is that of the first wrong item, or None."""

    def __init__(self, index):
        TwinError.__init__(self, str(index))
        self.index = index


class InvalidPort(TwinError):
    """A port is not the number of an input, or of an output."""


class InvalidSlot(TwinError):
    """A slot is no integer from 0 to 10 ** 31 - 1."""


class InvalidSpeeds(TwinError):
    """Speeds are no tuple of two integers from 1 to 60."""


class InvalidRhythm(TwinError):
    """Numbers are no rhythm; index is that of the first wrong item, or None."""

    def __init__(self, index):
        TwinError.__init__(self, str(index))
        self.index = index


class InvalidSide(TwinError):
    """A side is neither that of the inputs nor that of the outputs."""


class InvalidRule(TwinError):
    """A rule is none of newest, oldest and urgent."""


class InvalidWaiting(TwinError):
    """Waiting cells are wrong; index is that of the first wrong item, or None."""

    def __init__(self, index):
        TwinError.__init__(self, str(index))
        self.index = index


class InvalidPicks(TwinError):
    """Picks are not the pairing that is asked for."""


class InvalidFrame(TwinError):
    """A frame is wrong; index is that of its wrong item, or None."""

    def __init__(self, index):
        TwinError.__init__(self, str(index))
        self.index = index


class InvalidArrivals(TwinError):
    """Arrivals are wrong; index is that of the first wrong item, or None."""

    def __init__(self, index):
        TwinError.__init__(self, str(index))
        self.index = index


class InvalidNumber(TwinError):
    """A number is no integer, or lies outside its range."""


class InvalidCommand(TwinError):
    """A console does not know this command."""


class InvalidText(TwinError):
    """A text is wrong; word is the number of the first wrong word, or None."""

    def __init__(self, word):
        TwinError.__init__(self, str(word))
        self.word = word


class NotBusy(TwinError):
    """A row is not busy."""


class NotPressed(TwinError):
    """A row is not pressed."""


class Impossible(TwinError):
    """What is asked for cannot be."""


class TooLarge(TwinError):
    """What is asked for is beyond a limit."""

    def __init__(self, limit):
        TwinError.__init__(self, str(limit))
        self.limit = limit


class NothingToUndo(TwinError):
    """No change is left that could be reverted."""
