"""The refusals."""


class FloorError(ValueError):
    """Any refusal."""


class NoText(FloorError):
    """A text that is none of what is read; row is the first row that can't be one."""

    def __init__(self, row):
        self.row = row


class NoFloor(FloorError):
    """A pair that is no floor; word tells what is amiss, at where."""

    def __init__(self, word, at):
        self.word = word
        self.at = at


class NoTable(FloorError):
    """Four numbers that are no table."""


class NoSlope(FloorError):
    """A pair that is no slope."""


class TooMany(FloorError):
    """A chart of more rows than most."""

    def __init__(self, most):
        self.most = most


class NoName(FloorError):
    """A name by which nothing is kept."""

    def __init__(self, name):
        self.name = name


class NoRow(FloorError):
    """A row that a desk doesn't know."""
