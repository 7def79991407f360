"""The errors of the package.

Their messages are fixed: what an error keeps can be any value, and need not have a short text.
"""


class MomentError(ValueError):
    """A value that is not what the document asks for."""


class InvalidValue(MomentError):
    """No plain value, value, pairs or page."""


class InvalidKey(MomentError):
    """No key."""


class InvalidDeed(MomentError):
    """No deed, or no tuple of deeds."""


class InvalidQuestion(MomentError):
    """No question."""


class InvalidCourse(MomentError):
    """No course."""


class InvalidInstant(MomentError):
    """No instant."""


class InvalidCopy(MomentError):
    """No copy, or no row of copies."""


class InvalidView(MomentError):
    """No view."""


class InvalidWorld(MomentError):
    """No world."""


class InvalidDisk(MomentError):
    """No disk."""


class InvalidBlock(MomentError):
    """No block."""


class InvalidRecord(MomentError):
    """No record."""


class InvalidLetter(MomentError):
    """No letter."""


class InvalidBook(MomentError):
    """No book."""


class InvalidSetup(MomentError):
    """No setup."""


class InvalidMachine(MomentError):
    """No machine."""


class InvalidEvent(MomentError):
    """No event."""


class InvalidSystem(MomentError):
    """No system."""


class InvalidOperation(MomentError):
    """Something that cannot be done with these values."""


class ParseError(MomentError):
    """A text that cannot be read; `spot` is the index, or None."""

    def __init__(self, spot):
        MomentError.__init__(self, "no such text; its spot tells where")
        self.spot = spot


class InvalidNumber(IndexError):
    """A number out of its bounds, or none at all: `given`."""

    def __init__(self, given):
        IndexError.__init__(self, "no number within the told bounds was given")
        self.given = given


class UnknownName(KeyError):
    """A name that nothing has: `wanted`."""

    def __init__(self, wanted):
        KeyError.__init__(self, "nothing has the name that was wanted")
        self.wanted = wanted


class NothingToUndo(LookupError):
    """Nothing is there that can be undone: `wanted`."""

    def __init__(self, wanted):
        LookupError.__init__(self, "there is not so much to undo as was wanted")
        self.wanted = wanted


class TooMany(OverflowError):
    """More than the `limit` lets."""

    def __init__(self, limit):
        OverflowError.__init__(self, "there are more than the limit lets")
        self.limit = limit


class Refused(ArithmeticError):
    """A request that has no result; `reason` is a tuple that begins with a word."""

    def __init__(self, reason):
        ArithmeticError.__init__(self, "there is no result; its reason tells why")
        self.reason = reason
