"""The errors of the package: WardError, and directly under it one class for each kind of failure."""


class WardError(ValueError):
    """What all errors of the package are."""


class InvalidLot(WardError):
    """A value is no lot of places, one at least, of the land."""


class InvalidPlace(WardError):
    """A value is no place of the land, or the second head is the first one."""


class InvalidBounds(WardError):
    """Two values are no bounds low and high."""


class InvalidCount(WardError):
    """A value is no integer within the bounds that the call tells."""


class InvalidPart(WardError):
    """A value is not the part that the call asks for."""


class Refused(WardError):
    """All values are right, but what is asked of them cannot be done."""


class InvalidLand(WardError):
    """A value is no land; place tells where its first fault is."""

    def __init__(self, place):
        self.place = place


class InvalidPlan(WardError):
    """A value is no plan of the land; index tells where its first fault is."""

    def __init__(self, index):
        self.index = index


class InvalidPaper(WardError):
    """A value is no right paper; place tells where its first fault is."""

    def __init__(self, place):
        self.place = place


class InvalidText(WardError):
    """A value is no such text; index tells the first sign at which none goes on."""

    def __init__(self, index):
        self.index = index


class InvalidCommand(WardError):
    """A value is no command; index tells the first sign at which none goes on."""

    def __init__(self, index):
        self.index = index


class TooMany(WardError):
    """There are more things than count."""

    def __init__(self, count):
        self.count = count


class Unknown(WardError):
    """A word stands for nothing."""

    def __init__(self, word):
        self.word = word


class Twice(WardError):
    """A word stands for what has been told already."""

    def __init__(self, word):
        self.word = word
