"""The errors of the package. Each one keeps its arguments as attributes of the same names."""


class TryError(ValueError):
    """The base class of all errors of the package."""


class NoContext(TryError):
    """The function is not reached with these flags."""

    def __init__(self, function, flags):
        self.function = function
        self.flags = flags


class NoWay(TryError):
    """No visit comes out in this way and with this done to the cells."""

    def __init__(self, way, how):
        self.way = way
        self.how = how


class NoCell(TryError):
    """There is no cell of this name."""

    def __init__(self, name):
        self.name = name


class Unclean(TryError):
    """The code is not clean: the function does not keep the thing."""

    def __init__(self, function, thing):
        self.function = function
        self.thing = thing


class OtherShape(TryError):
    """The two codes do not have the same shape."""


class NoSpot(TryError):
    """This path is no spot of the body."""

    def __init__(self, spot):
        self.spot = spot


class TooMany(TryError):
    """There are this many spots to choose from, which is too many."""

    def __init__(self, count):
        self.count = count


class NoEntry(TryError):
    """The log has no entry of this number."""

    def __init__(self, number):
        self.number = number


class NoRow(TryError):
    """There is no row of this name."""

    def __init__(self, name):
        self.name = name


class BadCode(TryError):
    """The statement of this number in this function is wrong; None and None: the names of the code are."""

    def __init__(self, function, number):
        self.function = function
        self.number = number


class BadText(TryError):
    """The text is wrong from this line on; lines are counted from 1."""

    def __init__(self, line):
        self.line = line


class BadPuzzle(TryError):
    """A bit or a child is none."""


class TooGreat(TryError):
    """A bound is passed."""


class NoSuch(TryError):
    """There is nothing of this name."""

    def __init__(self, name):
        self.name = name


class Ended(TryError):
    """The run has ended."""


class NothingToUndo(TryError):
    """There is no answer to take back or to give again."""
