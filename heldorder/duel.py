"""The duel: two players lock points by turns, and whoever makes the last lock has won, or has lost.

Whether a row wins depends on its closure alone. So positions are judged by their closures, each with its steps: the
points that can be locked, with the closure after each of them (see heldorder.closure).
"""

from heldorder.checks import check_point, check_row, is_tuple_of
from heldorder.closure import bits_of, in_lot_order, lot_of, mark_bits, steps_above
from heldorder.errors import GameOver, NotAllowed, NothingToUndo
from heldorder.listing import world_steps
from heldorder.rows import check_tight


def allowed_locks(world, row):
    """The lot of the points that can be locked after the row."""
    steps = _steps_behind(world, row)
    return _allowed(steps, min(steps))


def is_winning(world, row, *, last_loses=False):
    """Whether the player whose turn it is after the row can win against every reply."""
    steps = _steps_behind(world, row)
    return _judged(steps, last_loses)[min(steps)]


def winning_lock(world, row, *, last_loses=False):
    """The least point after which the other player has lost, or None."""
    steps = _steps_behind(world, row)
    return _winning_point(steps, _judged(steps, last_loses), min(steps))


def duel_value(world, row):
    """The duel value of the row."""
    steps = _steps_behind(world, row)
    values = {}
    # The lots above a lot are greater numbers, so they are known when they are needed.
    for closed in sorted(steps, reverse=True):
        values[closed] = _least_missing([values[after] for after in steps[closed].values()])
    return values[min(steps)]


def losing_lots(world, *, last_loses=False):
    """The closures of the losing rows, in the order of lots."""
    judged = _judged(world_steps(world), last_loses)
    return in_lot_order([lot_of(bits) for bits, winning in judged.items() if not winning])


def is_losing_list(world, value, *, last_loses=False):
    """Whether the value is the list of the losing lots."""
    # True counts as 1 for Python, so equal lists are not enough.
    equal = value == losing_lots(world, last_loses=last_loses)
    return equal and all([is_tuple_of(world.points, lot) for lot in value])


class Duel:
    """One duel in a world."""

    def __init__(self, world, *, last_loses=False):
        self._points = world.points
        self._last_loses = last_loses
        self._steps = world_steps(world)
        self._judged = _judged(self._steps, last_loses)
        self._row = []
        # The closures of the beginnings of the row, the one of the empty row first.
        self._lots = [min(self._steps)]

    def lock(self, point):
        """Lock the point and return the new row."""
        check_point(self._points, point)
        if self.over:
            raise GameOver(len(self._row))
        if point not in self.allowed:
            raise NotAllowed(point)
        self._lots.append(self._steps[self._lots[-1]][point])
        self._row.append(point)
        return self.row

    def undo(self):
        """Take back the last lock and return its point."""
        if not self._row:
            raise NothingToUndo()
        self._lots.pop()
        return self._row.pop()

    @property
    def row(self):
        """The locked points in order."""
        return tuple(self._row)

    @property
    def turn(self):
        """The player whose turn it is."""
        return len(self._row) % 2

    @property
    def over(self):
        """Whether no point is allowed."""
        return not self._steps[self._lots[-1]]

    @property
    def winner(self):
        """The player who has won, or None if the duel is not over."""
        if not self.over:
            return None
        return self.turn if self._last_loses else 1 - self.turn

    @property
    def allowed(self):
        """The lot of the points that can be locked now."""
        return _allowed(self._steps, self._lots[-1])

    def best_lock(self):
        """The least point after which the other player has lost, or None."""
        return _winning_point(self._steps, self._judged, self._lots[-1])


def _steps_behind(world, row):
    """The steps of each closed lot that contains the tight row; the least of these lots is the row's closure."""
    check_row(world.points, row)
    check_tight(world, row)
    return steps_above(mark_bits(world), bits_of(row))


def _allowed(steps, closed):
    return tuple(steps[closed])


def _judged(steps, last_loses):
    """For each closed lot whether rows with this closure are winning rows."""
    judged = {}
    # The lots above a lot are greater numbers, so they are known when they are needed.
    for closed in sorted(steps, reverse=True):
        replies = [judged[after] for after in steps[closed].values()]
        judged[closed] = not all(replies) if replies else last_loses
    return judged


def _winning_point(steps, judged, closed):
    for point, after in steps[closed].items():
        if not judged[after]:
            return point
    return None


def _least_missing(values):
    """The least whole number of at least 0 that is not among the values."""
    missing = 0
    while missing in values:
        missing += 1
    return missing
