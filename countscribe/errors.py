"""The errors of the package; the fields of each tell what was refused."""


class CountError(ValueError):
    """What every error of this package is."""


class InvalidNumber(CountError):
    """An argument has to be a whole number within bounds and is none."""

    def __init__(self, value=None):
        self.value = value


class InvalidWord(CountError):
    """An argument has to be a word and is none."""

    def __init__(self, value=None):
        self.value = value


class InvalidForm(CountError):
    """An argument has to be a form and is none."""

    def __init__(self, value=None):
        self.value = value


class InvalidPoint(CountError):
    """An argument has to be a point and is none."""

    def __init__(self, value=None):
        self.value = value


class InvalidPieces(CountError):
    """An argument has to be a list of pieces and is none."""

    def __init__(self, value=None):
        self.value = value


class InvalidList(CountError):
    """An argument has to be a list of certain things and is none."""

    def __init__(self, value=None):
        self.value = value


class InvalidImages(CountError):
    """An argument has to be a dictionary of words for letters and is none."""

    def __init__(self, value=None):
        self.value = value


class InvalidLines(CountError):
    """An argument has to be a line that can be read and is none."""

    def __init__(self, value=None):
        self.value = value


class InvalidBits(CountError):
    """An argument has to be a string of bits and is none."""

    def __init__(self, value=None):
        self.value = value


class InvalidRun(CountError):
    """An argument has to be a least run and is none."""

    def __init__(self, value=None):
        self.value = value


class InvalidWheel(CountError):
    """An argument has to be a least wheel and is none."""

    def __init__(self, value=None):
        self.value = value


class InvalidGrowth(CountError):
    """An argument has to be a least growth and is none."""

    def __init__(self, value=None):
        self.value = value


class InvalidVector(CountError):
    """An argument has to be a vector and is none."""

    def __init__(self, value=None):
        self.value = value


class InvalidPlaces(CountError):
    """An argument has to be a list of counts for the powers and is none."""

    def __init__(self, value=None):
        self.value = value


class InvalidExamples(CountError):
    """An argument has to be examples and is none."""

    def __init__(self, value=None):
        self.value = value


class InvalidSide(CountError):
    """An argument has to be a side of a mark and is none."""

    def __init__(self, value=None):
        self.value = value


class InvalidFlag(CountError):
    """An argument has to be a Boolean and is none."""

    def __init__(self, value=None):
        self.value = value


class InvalidSplices(CountError):
    """An argument has to be a list of splices and is none."""

    def __init__(self, value=None):
        self.value = value


class InvalidText(CountError):
    """An argument has to be an open text that fits and is none."""

    def __init__(self, value=None):
        self.value = value


class InvalidKept(CountError):
    """An argument has to be a kept word that fits and is none."""

    def __init__(self, value=None):
        self.value = value


class InvalidLine(CountError):
    """An argument has to be a line of points and is none."""

    def __init__(self, value=None):
        self.value = value


class InvalidPrices(CountError):
    """An argument has to be prices and is none."""

    def __init__(self, value=None):
        self.value = value


class InvalidPatch(CountError):
    """An argument has to be a patch and is none."""

    def __init__(self, value=None):
        self.value = value


class InvalidPiece(CountError):
    """An item is no piece."""

    def __init__(self, value=None):
        self.value = value


class InvalidSplice(CountError):
    """An item is no splice."""

    def __init__(self, value=None):
        self.value = value


class Unlike(CountError):
    """An argument does not go with one ahead of it."""

    def __init__(self, value=None):
        self.value = value


class TooLong(CountError):
    """There are more letters, or a greater measure or weight, than allowed."""

    def __init__(self, value=None):
        self.value = value


class TooMany(CountError):
    """There are more things than allowed."""

    def __init__(self, value=None):
        self.value = value


class NotOpen(CountError):
    """A text cannot be cut at this place at every point in one way."""

    def __init__(self, value=None):
        self.value = value


class NotInOrder(CountError):
    """Two places do not stand in order."""

    def __init__(self, one=None, other=None):
        self.one = one
        self.other = other


class Clash(CountError):
    """Two splices are in each other's way."""

    def __init__(self, one=None, other=None):
        self.one = one
        self.other = other


class NoMark(CountError):
    """No mark has this name."""

    def __init__(self, name=None):
        self.name = name


class NothingToUndo(CountError):
    """There is no deed to undo."""


class NothingToRedo(CountError):
    """There is no deed to do again."""
