"""The errors of the package, each with the attribute that it is made with."""


class NetError(ValueError):
    """The base of all errors of the package."""


class InvalidNet(NetError):
    """What was given is no net, or none that the call can take."""

    def __init__(self, given):
        self.given = given


class InvalidWire(NetError):
    """What was given is no wire of the net."""

    def __init__(self, given):
        self.given = given


class InvalidKind(NetError):
    """What was given is no kind of joins."""

    def __init__(self, given):
        self.given = given


class InvalidNumber(NetError):
    """What was given is no whole number, or one that is out of bounds."""

    def __init__(self, given):
        self.given = given


class InvalidTable(NetError):
    """What was given is no table, or none that the call can take."""

    def __init__(self, given):
        self.given = given


class InvalidFault(NetError):
    """What was given is no fault of the net."""

    def __init__(self, given):
        self.given = given


class InvalidName(NetError):
    """What was given is the name of no ladder."""

    def __init__(self, given):
        self.given = given


class TooLong(NetError):
    """A word is too long to be written out; given is how many places it has."""

    def __init__(self, given):
        self.given = given


class InvalidWishes(NetError):
    """The wishes are wrong at an index, or as a whole where index is None."""

    def __init__(self, index):
        self.index = index


class InvalidWorths(NetError):
    """The worths are wrong at an index, or as a whole where index is None."""

    def __init__(self, index):
        self.index = index


class InvalidMarks(NetError):
    """The marks are wrong at an index, or as a whole where index is None."""

    def __init__(self, index):
        self.index = index


class InvalidDigits(NetError):
    """The digits are wrong at an index, or as a whole where index is None."""

    def __init__(self, index):
        self.index = index


class NotRunning(NetError):
    """The net has another number of ends than of places."""


class NotRight(NetError):
    """The net is not right for the running wishes and all joins."""
