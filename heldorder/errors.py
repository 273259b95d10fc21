"""The limits of the program and the errors that it raises.

Each error keeps its parameters as attributes of the same names.
"""

MOST_POINTS = 12
MOST_TOLD = 8
MOST_MADE = 400
MOST_ROW = 24
MOST_ROWS = 2000
MOST_POWER = 1000
MOST_LIST = 400
MOST_CHECKED = 60
MOST_LOTS = 4096
MOST_EDITS = 40
MOST_LINES = 60


class HeldorderError(ValueError):
    """The base class of all errors of the program."""


class BadNumber(HeldorderError):
    """The value is not a whole number from low to high."""

    def __init__(self, value, low, high):
        self.value = value
        self.low = low
        self.high = high


class NotAPoint(HeldorderError):
    """The value is not a point."""

    def __init__(self, value):
        self.value = value


class NotAMove(HeldorderError):
    """The argument at this index is not a move on the number of points."""

    def __init__(self, index):
        self.index = index


class TooMany(HeldorderError):
    """There are more of what is named than the limit."""

    def __init__(self, what, limit):
        self.what = what
        self.limit = limit


class UnlikeSizes(HeldorderError):
    """Two numbers that should be equal differ."""

    def __init__(self, first, second):
        self.first = first
        self.second = second


class RepeatedPoint(HeldorderError):
    """A point that must not stand again stands again."""

    def __init__(self, value):
        self.value = value


class BadText(HeldorderError):
    """The line, counted from 1, is the first bad one of a text."""

    def __init__(self, line):
        self.line = line


class NotMade(HeldorderError):
    """The move is not a made move of the world."""

    def __init__(self, move):
        self.move = move


class NotTight(HeldorderError):
    """A row is loose; the index is its least loose one."""

    def __init__(self, index):
        self.index = index


class NotFull(HeldorderError):
    """A row is not full; the point is the least one outside its closure."""

    def __init__(self, point):
        self.point = point


class NotAFailing(HeldorderError):
    """The first condition of a failing that is not fulfilled, or 0 for a wrong form."""

    def __init__(self, condition):
        self.condition = condition


class NotNeighbours(HeldorderError):
    """Two rows do not form a neighbour pair."""


class NotShorter(HeldorderError):
    """The first number of points is not less than the second."""

    def __init__(self, first, second):
        self.first = first
        self.second = second


class SameLength(HeldorderError):
    """Two rows have this same number of points."""

    def __init__(self, length):
        self.length = length


class NoSuchLength(HeldorderError):
    """No row has this length; there are rows from the least to the greatest."""

    def __init__(self, length, least, greatest):
        self.length = length
        self.least = least
        self.greatest = greatest


class NotAnOrder(HeldorderError):
    """The value is not a bad order."""


class NotAChain(HeldorderError):
    """The value is not a chain of the world."""


class NotABase(HeldorderError):
    """The lot at this place among the lots is not a base lot."""

    def __init__(self, place):
        self.place = place


class NotInside(HeldorderError):
    """The point does not lie where it should."""

    def __init__(self, point):
        self.point = point


class OrderMatters(HeldorderError):
    """Locks do not exchange in the world, as its first failing shows."""

    def __init__(self, failing):
        self.failing = failing


class FullLot(HeldorderError):
    """A lot is full that should not be."""

    def __init__(self, lot):
        self.lot = lot


class NotAWord(HeldorderError):
    """The argument at this index is not a word of the modulus and the columns."""

    def __init__(self, index):
        self.index = index


class NotAColumn(HeldorderError):
    """The value is not a column of the book."""

    def __init__(self, value):
        self.value = value


class NotACount(HeldorderError):
    """The entry at this index of a tally is not a whole number of at least 0."""

    def __init__(self, index):
        self.index = index


class GameOver(HeldorderError):
    """The duel is over after this number of locks."""

    def __init__(self, locks):
        self.locks = locks


class NotAllowed(HeldorderError):
    """The point must not be locked now."""

    def __init__(self, point):
        self.point = point


class NothingToUndo(HeldorderError):
    """There is nothing to undo."""


class NothingToRedo(HeldorderError):
    """There is nothing to redo."""


class NothingKept(HeldorderError):
    """No paper is kept."""


class BadEdit(HeldorderError):
    """The value at this index of the edits is not an edit."""

    def __init__(self, index):
        self.index = index


class UnknownName(HeldorderError):
    """No question has this name."""

    def __init__(self, name):
        self.name = name


class NotAPaper(HeldorderError):
    """The value does not have the form of a paper."""
