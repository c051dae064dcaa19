"""The errors of the package; each one keeps what it was made with."""


class TurnError(ValueError):
    """Whatever goes wrong in this package."""


class Unfit(TurnError):
    """What is asked for does not fit what it is asked of."""


class BadPosition(TurnError):
    """A text tells no position; error says why."""

    def __init__(self, error):
        self.error = error


class BadScore(TurnError):
    """A value is no score; error says why."""

    def __init__(self, error):
        self.error = error


class BadDraws(TurnError):
    """A value is no draws; error says why."""

    def __init__(self, error):
        self.error = error


class BadText(TurnError):
    """A text is not as it should be; place says where."""

    def __init__(self, place):
        self.place = place


class BadLog(TurnError):
    """A log cannot be done; place says by which edit."""

    def __init__(self, place):
        self.place = place


class TooMany(TurnError):
    """There are more cells than a tree is searched for; limit says how many may be."""

    def __init__(self, limit):
        self.limit = limit


class TooManyEdits(TurnError):
    """As many edits stand as may stand."""


class NothingToUndo(TurnError):
    """No edit stands."""
