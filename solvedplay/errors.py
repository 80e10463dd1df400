"""The refusals. Each has the one field what: that which is refused."""


class BadRow(ValueError):
    """A row of a text isn't written as it must be, or can't stand where it stands."""

    def __init__(self, what):
        self.what = what


class BadChange(ValueError):
    """A change by which a game can't become another one."""

    def __init__(self, what):
        self.what = what


class NoMove(LookupError):
    """A move that can't be made."""

    def __init__(self, what):
        self.what = what


class NoGame(LookupError):
    """A name under which no game stands."""

    def __init__(self, what):
        self.what = what


class NoStanding(LookupError):
    """What is no standing of a game."""

    def __init__(self, what):
        self.what = what


class NoEdition(LookupError):
    """A number that no edition of a game has."""

    def __init__(self, what):
        self.what = what


class TooMany(OverflowError):
    """More standings than may be."""

    def __init__(self, what):
        self.what = what


class Busy(RuntimeError):
    """As many runs are under way as may be."""

    def __init__(self, what):
        self.what = what
