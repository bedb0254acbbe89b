"""The errors of the program: each stores the one argument it is constructed with."""


class LiftError(ValueError):
    """Any error of the program."""

    def __init__(self, value):
        ValueError.__init__(self, value)
        self.value = value


class InvalidMatrix(LiftError):
    """A matrix without rows or with a wrong bottom (None), or with a wrong row (its number)."""


class InvalidChain(LiftError):
    """A chain with a wrong number of channels (None) or a wrong step (its number)."""


class InvalidBox(LiftError):
    """A box with a wrong number of tuples (None) or a wrong tuple (its number)."""


class InvalidChannel(LiftError):
    """A channel that a chain does not have."""


class InvalidNumber(LiftError):
    """A number that is not allowed where it stands."""


class InvalidVector(LiftError):
    """A vector with a wrong entry (its channel)."""


class OtherChannels(LiftError):
    """A second thing with another number of channels or rows (that number)."""


class NotTwo(LiftError):
    """A chain that has not two channels (their number)."""


class NotTurning(LiftError):
    """A chain that is not turning (None)."""


class Singular(LiftError):
    """A matrix without an inverse (None)."""


class NothingToUndo(LiftError):
    """A sheet without a call to take back (0)."""


class Unreadable(LiftError):
    """A text that is that of nothing (the text)."""
