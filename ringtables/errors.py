"""All errors of the package."""


class RingError(ValueError):
    """The base of most errors of the package; takes a message."""


class InvalidLot(RingError):
    """What was passed is no lot, or not one of this place."""


class InvalidTable(RingError):
    """What was passed is no table."""


class InvalidNet(RingError):
    """What was passed is no net."""


class InvalidSigns(RingError):
    """What was passed are no signs for the table."""


class InvalidList(RingError):
    """What was passed is no list of wishes."""


class InvalidRow(RingError):
    """What was passed is no row of integers of this place."""


class InvalidText(RingError):
    """What was passed is no text."""


class InvalidClaim(RingError):
    """What was passed is no claim."""


class InvalidOperation(RingError):
    """What was passed does not fit the rest."""


class ParseError(RingError):
    """A text is wrong; keeps the spot."""

    def __init__(self, spot):
        self.spot = spot


class InvalidNumber(IndexError):
    """A number is none of those that are due; keeps what was given."""

    def __init__(self, given):
        self.given = given


class UnknownName(LookupError):
    """A name is not known; keeps what was wanted."""

    def __init__(self, wanted):
        self.wanted = wanted


class NothingToUndo(LookupError):
    """Nothing is there to be undone, or done again; keeps how many deeds are done."""

    def __init__(self, done):
        self.done = done


class TooMany(OverflowError):
    """Something is larger than the package goes; keeps the limit."""

    def __init__(self, limit):
        self.limit = limit


class Refused(ArithmeticError):
    """Something can't be done; keeps the reason, a tuple that begins with a word."""

    def __init__(self, reason):
        self.reason = reason
