"""The refusals: one base, and each other one straight under it."""


class UnderError(ValueError):
    """Any refusal."""


class NoWord(UnderError):
    """What is handed in is no word, or no number of an exchange."""


class NoNumber(UnderError):
    """What is handed in is not the number of an order."""


class NoPair(UnderError):
    """Two things that are handed in do not belong together."""


class TooMany(UnderError):
    """What is asked for is beyond the bounds."""


class NoTables(UnderError):
    """Two things that are handed in are no pair of tables."""


class NoText(UnderError):
    """A text is not written as it must be."""


class NoRow(UnderError):
    """A row has none of the forms that the desk knows."""


class NoName(UnderError):
    """Nothing is kept by a name."""
