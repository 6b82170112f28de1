"""The refusals, all under one base."""


class MixError(ValueError):
    """Any refusal."""


class LineError(MixError):
    """A line is at fault; the field `line` is its number."""

    def __init__(self, line):
        self.line = line


class NoLine(LineError):
    """It is not names, a colon and rows."""


class TooMany(LineError):
    """There are more names or lines than there may be."""


class Twice(LineError):
    """A name or a row stands in the line twice."""


class Unlike(LineError):
    """A row is longer or shorter than the names are many."""


class NoAsk(MixError):
    """What is asked has no meaning."""


class NoName(MixError):
    """The net does not have that name."""


class NoTie(MixError):
    """No line kept has that number."""
