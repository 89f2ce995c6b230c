"""The errors of the package: one class for each kind of failure, each with its arguments as attributes."""


class HoldError(ValueError):
    """The base of all errors of the package."""


class BadPlace(HoldError):
    """The part with this name is no place, or no number of a place."""

    def __init__(self, part):
        self.part = part


class BadSize(HoldError):
    """The part with this name is no size."""

    def __init__(self, part):
        self.part = part


class BadColour(HoldError):
    """This value is no colour."""

    def __init__(self, value):
        self.value = value


class BadPixel(HoldError):
    """These two values are no pixel."""

    def __init__(self, x, y):
        self.x = x
        self.y = y


class BadPicture(HoldError):
    """The row with this index is wrong, or, with None, what was passed has no rows."""

    def __init__(self, row):
        self.row = row


class BadDeed(HoldError):
    """The part of a deed with this name is wrong."""

    def __init__(self, part):
        self.part = part


class BadProgram(HoldError):
    """The argument with this index is no deed, or no program."""

    def __init__(self, at):
        self.at = at


class BadClaim(HoldError):
    """The part of a claim with this name is wrong."""

    def __init__(self, part):
        self.part = part


class BadClass(HoldError):
    """The part of a class of sizes with this name is wrong."""

    def __init__(self, part):
        self.part = part


class Unlike(HoldError):
    """Two pictures, or a canvas and a picture, have two sizes."""


class TooMany(HoldError):
    """There are more of these than the most that may be."""

    def __init__(self, what, most):
        self.what = what
        self.most = most


class NoDeed(HoldError):
    """No deed has this index."""

    def __init__(self, index):
        self.index = index


class NoFlood(HoldError):
    """No flood has this number."""

    def __init__(self, index):
        self.index = index


class NoClass(HoldError):
    """This value is none of the classes of sizes."""

    def __init__(self, value):
        self.value = value


class Fails(HoldError):
    """A claim fails on the canvas with this size."""

    def __init__(self, width, height):
        self.width = width
        self.height = height


class Gap(HoldError):
    """A claim fails at this pixel."""

    def __init__(self, x, y):
        self.x = x
        self.y = y


class BadText(HoldError):
    """The word with this index in the line with this index cannot stand."""

    def __init__(self, line, word):
        self.line = line
        self.word = word


class NoName(HoldError):
    """Nothing is kept under this name."""

    def __init__(self, name):
        self.name = name


class NoRow(HoldError):
    """No line of a desk begins with this word."""

    def __init__(self, word):
        self.word = word
