"""The errors of this package: all stand directly under SleepError."""


class SleepError(ValueError):
    """What every error of this package is."""


class Unfit(SleepError):
    """A value is none of those that may stand there."""


class BadBook(SleepError):
    """A value is no book; error is what book_error tells of it."""

    def __init__(self, error):
        self.error = error


class BadPrograms(SleepError):
    """Values are no programs; error is what programs_error tells of them."""

    def __init__(self, error):
        self.error = error


class BadMove(SleepError):
    """A move cannot be made; error is what move_error tells of it."""

    def __init__(self, error):
        self.error = error


class BadRun(SleepError):
    """A value is no run; error is what run_error tells of it."""

    def __init__(self, error):
        self.error = error


class BadText(SleepError):
    """A text cannot be read; place is its first wrong part or line."""

    def __init__(self, place):
        self.place = place


class BadLog(SleepError):
    """A log cannot be followed; place is that of its first wrong edit."""

    def __init__(self, place):
        self.place = place


class Refused(SleepError):
    """A hall does not do what it was asked; word tells why."""

    def __init__(self, word):
        self.word = word


class TooMany(SleepError):
    """There would be more of something than limit."""

    def __init__(self, limit):
        self.limit = limit


class TooManyEdits(SleepError):
    """The log of a hall is full."""


class NothingToUndo(SleepError):
    """The log of a hall is empty."""
