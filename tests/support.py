"""Helpers of the tests: strict comparison, wrong values, and the refusals that many functions share."""

import unittest

from heldorder import errors
from heldorder.movetext import parse_move
from heldorder.worlds import World

PARAMETERS = {
    "BadNumber": ("value", "low", "high"),
    "NotAPoint": ("value",),
    "NotAMove": ("index",),
    "TooMany": ("what", "limit"),
    "UnlikeSizes": ("first", "second"),
    "RepeatedPoint": ("value",),
    "BadText": ("line",),
    "NotMade": ("move",),
    "NotTight": ("index",),
    "NotFull": ("point",),
    "NotAFailing": ("condition",),
    "NotNeighbours": (),
    "NotShorter": ("first", "second"),
    "SameLength": ("length",),
    "NoSuchLength": ("length", "least", "greatest"),
    "NotAnOrder": (),
    "NotAChain": (),
    "NotABase": ("place",),
    "NotInside": ("point",),
    "OrderMatters": ("failing",),
    "FullLot": ("lot",),
    "NotAWord": ("index",),
    "NotAColumn": ("value",),
    "NotACount": ("index",),
    "GameOver": ("locks",),
    "NotAllowed": ("point",),
    "NothingToUndo": (),
    "NothingToRedo": (),
    "NothingKept": (),
    "BadEdit": ("index",),
    "UnknownName": ("name",),
    "NotAPaper": (),
}

BIG = 10 ** 29

# Values that are no whole numbers, and so neither points nor indexes.
NOT_WHOLE = [True, False, None, "", "0", [], [0], (), (0,), ((0, 1), [True, "x"])]

# Values that are no moves on any number of points.
NOT_MOVES = [
    [], [0], [0, 1], (0, 0), (1, 2), (-1, 0), (0, 2), (True,), (False,), (False, True), (0, True), (True, 0),
    (0, None), ("0",), (0, "1"), ((0,),), ([0],), ((),), ([],), ((0, 1), (1, 0)), None, True, False, 0, 1, 12, "", "()",
    "01", (BIG, 0), tuple(range(13)), (1, 0) + tuple(range(2, 13)), (0,) * 200000, tuple(range(1, 13)),
    (0, 1, 1), (2, 2, 2), (0, 1, 3), (0, 1, 2, 3, 4, 5, 6, 7, 8, 9, 10, 10),
]

# Values of all kinds, deep ones and long ones, that are right for nothing.
ANY_VALUES = NOT_WHOLE + NOT_MOVES + [
    -1, 2, 24, BIG, -BIG, "(0)", "failing", [[]], [()], ((),), ([],), (((((0,),),),),), [[[[[[0]]]]]],
    ((), 0), ((), 0, 4, 0), ([], 0, 4), ((), None, None), (None, 0, 4), (0, 0, 4), ("", 0, 4), ((), (0,), (4,)),
    [(0,)] * 200000, ((),) * 200000, [()] * 100000, [0] * 200000, tuple([(0,)] * 100000), [[0]] * 50000,
    [[0], [0, 1]], ([0], [0, 1]), [(True,), (0, 1)], ((True,), (False, True)), [None], (None,), [None, (0,)],
    [(0,), None], ["0", "01"], ("ab",), [(0, 99)], [(-1,)], [(-1, 0)], [(BIG,)], [("0",)], [((0,),)], [([0],)], [(None,)],
    ((4, 0), (0, 4), True), ((4, 0), (0, 4), None), ([4, 0], [0, 4], 1), ((4, 0), (0, 4)), ((4, 0), (0, 4), 1, 1),
]


def still(points):
    return tuple(range(points))


def swap(points, first, second):
    """The move that exchanges two points."""
    move = list(range(points))
    move[first], move[second] = second, first
    return tuple(move)


def by_told(points, *texts):
    """The world of the told moves in their written forms."""
    return World(points, [parse_move(points, text) for text in texts])


def allow(call, *kinds):
    """The call, in which errors of these kinds, which come after all checks of arguments, do not matter."""
    def allowed(*args, **named):
        try:
            return call(*args, **named)
        except kinds:
            return None
    return allowed


class Case(unittest.TestCase):
    """A test case that tells lists from tuples and True from 1."""

    def same(self, result, expected):
        self.assertEqual(repr(result), repr(expected))

    def refused(self, expected, call, *args, **named):
        with self.assertRaises(errors.HeldorderError) as caught:
            call(*args, **named)
        kind = type(expected).__name__
        self.assertEqual(type(caught.exception).__name__, kind)
        for name in PARAMETERS[kind]:
            self.same(getattr(caught.exception, name), getattr(expected, name))

    def check_number_argument(self, call, low, high):
        """The call takes the numbers from low to high and refuses all else."""
        for value in NOT_WHOLE + [low - 1, low - 2, high + 1, high + 2, BIG, -BIG]:
            with self.subTest(value=value):
                self.refused(errors.BadNumber(value, low, high), call, value)
        for value in {low, high, (low + high) // 2}:
            with self.subTest(value=value):
                call(value)

    def check_point_argument(self, call, points):
        """The call takes each of the points and refuses all else."""
        for value in NOT_WHOLE + [-1, points, points + 1, -points, 12, 13, BIG, -BIG]:
            with self.subTest(value=value):
                self.refused(errors.NotAPoint(value), call, value)
        for value in range(points):
            call(value)

    def check_move_argument(self, call, place, points=None):
        """The call refuses what is no move; with a number of points, also moves on another number."""
        others = [] if points is None else [still(n) for n in range(13) if n != points]
        for value in NOT_MOVES + others:
            with self.subTest(value=repr(value)[:60]):
                self.refused(errors.NotAMove(place), call, value)

    def check_row_argument(self, call, points):
        """The call takes rows of up to 24 entries, as lists and as tuples; points is at least 1."""
        last = points - 1
        for kind in (list, tuple):
            call(kind([]))
            call(kind([last] * 24))
            self.refused(errors.TooMany("row", 24), call, kind([last] * 25))
            self.refused(errors.TooMany("row", 24), call, kind([None] * 25))
            self.refused(errors.TooMany("row", 24), call, kind([0] * 200))
            for value in NOT_WHOLE + [-1, points, BIG]:
                for index in (0, 1, 23):
                    row = [0] * 24
                    row[index] = value
                    with self.subTest(value=value, index=index):
                        self.refused(errors.NotAPoint(value), call, kind(row))
            for index in range(24):
                row = [last] * index + [points + index] + [None] * (23 - index)
                self.refused(errors.NotAPoint(points + index), call, kind(row))

    def check_move_list_argument(self, call, points, what, limit):
        """The call takes lists and tuples of at most so many moves on this number of points."""
        whole = still(points)
        other = still(points + 1) if points < 12 else still(points - 1)
        for kind in (list, tuple):
            call(kind([]))
            call(kind([whole] * limit))
            self.refused(errors.TooMany(what, limit), call, kind([whole] * (limit + 1)))
            self.refused(errors.TooMany(what, limit), call, kind([None] * (limit + 1)))
            for value in NOT_MOVES + [other]:
                self.refused(errors.NotAMove(0), call, kind([value]))
                self.refused(errors.NotAMove(limit - 1), call, kind([whole] * (limit - 1) + [value]))
            for index in range(limit):
                self.refused(errors.NotAMove(index), call, kind([whole] * index + [other] + [None] * (limit - index - 1)))

    def check_judged_argument(self, call, *, but=()):
        """The call gives False for values of all kinds, but for some, as they are written."""
        right = [repr(value) for value in but]
        for value in ANY_VALUES:
            before = repr(value)
            with self.subTest(value=before[:60]):
                self.same(call(value), before in right)
                self.same(repr(value) == before, True)

    def check_two_row_arguments(self, call, points):
        """The call checks its first row wholly before its second one; points is at least 1."""
        self.check_row_argument(lambda row: call(row, []), points)
        self.check_row_argument(lambda row: call([], row), points)
        self.refused(errors.NotAPoint(points), call, [0, points], [0] * 25)
        self.refused(errors.TooMany("row", 24), call, [None] * 25, [points])
