"""Tallies: how many moves hold how many points, and what can be counted by it."""

from heldorder.checks import check_moves, check_number, check_points
from heldorder.errors import MOST_LIST, MOST_ROWS, NotACount, TooMany
from heldorder.flats import closed_lots
from heldorder.moves import carry, cycles, held_points

MOST_TALLY_POINTS = 24
MOST_LENGTH = 6


class Tally:
    """The numbers of moves that hold exactly 0, 1, .. points."""

    def __init__(self, counts):
        check_number(len(counts), 1, MOST_TALLY_POINTS + 1)
        for index, many in enumerate(counts):
            if not _is_count(many):
                raise NotACount(index)
        self._counts = tuple(counts)

    @staticmethod
    def of_moves(points, moves):
        """The tally of the moves; equal ones are counted as often as they stand there."""
        check_points(points)
        check_moves(points, moves, "list", MOST_LIST)
        counts = [0] * (points + 1)
        for move in moves:
            counts[len(held_points(move))] += 1
        return Tally(counts)

    @property
    def counts(self):
        """The entries."""
        return self._counts

    @property
    def points(self):
        """The number of points."""
        return len(self._counts) - 1

    @property
    def total(self):
        """The sum of the entries."""
        return sum(self._counts)

    def at(self, k):
        """The number of moves that hold exactly k points."""
        check_number(k, 0, MOST_TALLY_POINTS)
        return _entry(self._counts, k)

    def __add__(self, other):
        if not isinstance(other, Tally):
            return NotImplemented
        size = max(len(self._counts), len(other._counts))
        return Tally([_entry(self._counts, k) + _entry(other._counts, k) for k in range(size)])

    def __mul__(self, other):
        if not isinstance(other, Tally):
            return NotImplemented
        points = self.points + other.points
        if points > MOST_TALLY_POINTS:
            raise TooMany("points", MOST_TALLY_POINTS)
        counts = [0] * (points + 1)
        for i, many in enumerate(self._counts):
            for j, more in enumerate(other._counts):
                counts[i + j] = counts[i + j] + many * more
        return Tally(counts)

    def __eq__(self, other):
        if not isinstance(other, Tally):
            return False
        return self._counts == other._counts


def world_tally(world):
    """The tally of the made moves."""
    return Tally.of_moves(world.points, world.made)


def count_orbits(world):
    """The number of orbits."""
    return count_row_orbits(world, 1)


def count_row_orbits(world, length):
    """The number of row orbits of the rows with so many points."""
    check_number(length, 0, MOST_LENGTH)
    counts = world_tally(world).counts
    return sum([many * _power(held, length) for held, many in enumerate(counts)]) // len(world)


def row_orbit_heads(world, length, *, limit=MOST_ROWS):
    """The least rows of these row orbits, ascending."""
    check_number(length, 0, MOST_LENGTH)
    check_number(limit, 0, MOST_ROWS)
    if _power(world.points, length) > limit:
        raise TooMany("rows", limit)
    heads = []
    known = {}
    for row in _rows_of(world.points, length):
        # The rows ascend, so the first row of its row orbit is the least.
        if row not in known:
            heads.append(row)
            for move in world:
                known[carry(move, row)] = True
    return heads


def shape(move):
    """The numbers of points of the cycles, the greatest first, then 1 for each held point."""
    return tuple(sorted([len(row) for row in cycles(move)], reverse=True)) + (1,) * len(held_points(move))


def shapes(world):
    """The shapes of the made moves, each with the number of moves that have it, ascending."""
    found = {}
    for move in world:
        key = shape(move)
        found[key] = found.get(key, 0) + 1
    return sorted(found.items())


def exact_counts(world):
    """Each closed lot with the number of made moves that hold exactly its points, in the order of lots."""
    exact = {}
    for move in world:
        held = held_points(move)
        exact[held] = exact.get(held, 0) + 1
    return [(lot, exact.get(lot, 0)) for lot in closed_lots(world)]


def _is_count(value):
    # True and False are integers for Python, but no whole numbers here.
    return isinstance(value, int) and not isinstance(value, bool) and value >= 0


def _entry(counts, k):
    return counts[k] if k < len(counts) else 0


def _power(base, times):
    worth = 1
    for _ in range(times):
        worth = worth * base
    return worth


def _rows_of(points, length):
    """All rows with so many points, ascending."""
    rows = [()]
    for _ in range(length):
        rows = [row + (point,) for row in rows for point in range(points)]
    return rows
