"""The errors of this package.

Those with a field hand a fixed sentence to their base class: what a field
holds may be any value, also one that can not be written out as text.
"""


class ThrowError(ValueError):
    """The base of all errors of this package."""


class Unfit(ThrowError):
    """What was handed in does not fit."""


class BadText(ThrowError):
    """The value is not the text of what was to be read."""


class Never(ThrowError):
    """No run is left to speak of."""


class BadProgram(ThrowError):
    """The value is no program, for the reason that error tells."""

    def __init__(self, error):
        ThrowError.__init__(self, "the value is no program")
        self.error = error


class BadBook(ThrowError):
    """The value is no book, for the reason that error tells."""

    def __init__(self, error):
        ThrowError.__init__(self, "the value is no book")
        self.error = error


class NoName(ThrowError):
    """Nothing has the name that was given."""

    def __init__(self, given):
        ThrowError.__init__(self, "nothing has the name that was given")
        self.given = given


class TooMany(ThrowError):
    """There are more of something than the limit allows."""

    def __init__(self, limit):
        ThrowError.__init__(self, "there are more than the limit allows")
        self.limit = limit


class TooManyEdits(ThrowError):
    """No further edit may stand."""


class NothingToUndo(ThrowError):
    """No edit stands that could be taken back."""


class NothingToRedo(ThrowError):
    """No edit was taken back that could be done again."""


class NoVersion(ThrowError):
    """There is no version as it was given."""

    def __init__(self, given):
        ThrowError.__init__(self, "there is no version as it was given")
        self.given = given


class BadLog(ThrowError):
    """The value is no log of edits, the item at the place being the first wrong one."""

    def __init__(self, place):
        ThrowError.__init__(self, "the value is no log of edits")
        self.place = place
