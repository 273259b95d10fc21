"""Lists and numbers of the tight rows and of the tight full rows of a world.

Which points can follow a tight row depends on its closure alone. So rows are counted by their closures first,
and listed only if there are not too many. The steps of a world are those of heldorder.closure: for each closed lot,
as a number, the points outside with the closure of the lot with each of them added.
"""

from heldorder.checks import check_number, is_number
from heldorder.closure import mark_bits, steps_above
from heldorder.errors import MOST_POINTS, MOST_ROWS, TooMany


def count_full_rows(world, *, length=None):
    """The number of tight full rows, of all of them or of those with this length."""
    if length is not None:
        check_number(length, 0, MOST_POINTS)
    steps = world_steps(world)
    levels = _levels(steps)
    return _count_full(steps, levels if length is None else levels[length:length + 1])


def full_rows(world, *, limit=MOST_ROWS):
    """All tight full rows in ascending order."""
    check_number(limit, 0, MOST_ROWS)
    steps = world_steps(world)
    if _count_full(steps, _levels(steps)) > limit:
        raise TooMany("rows", limit)
    return full_rows_of(steps)


def tight_rows(world, length, *, limit=MOST_ROWS):
    """All tight rows of this length in ascending order."""
    check_number(length, 0, MOST_POINTS)
    check_number(limit, 0, MOST_ROWS)
    steps = world_steps(world)
    if sum([many for level in _levels(steps)[length:length + 1] for many in level.values()]) > limit:
        raise TooMany("rows", limit)
    reach = _reach(steps)
    pairs = _first_pairs(steps)
    for done in range(1, length + 1):
        # Rows that end too early are left out at once: they may be far more than those that are asked for.
        pairs = [(row, lot) for row, lot in _longer_pairs(steps, pairs) if done + reach[lot] >= length]
    return [row for row, _ in pairs]


class RowBook:
    """The full row list of a world."""

    def __init__(self, world, *, limit=MOST_ROWS):
        self._rows = full_rows(world, limit=limit)

    def __len__(self):
        return len(self._rows)

    def __iter__(self):
        return iter(self._rows)

    def __contains__(self, value):
        if not isinstance(value, (list, tuple)) or len(value) > MOST_POINTS:
            return False
        # Without this test True would count as 1.
        if any([not is_number(point, 0, MOST_POINTS) for point in value]):
            return False
        return tuple(value) in self._rows

    @property
    def lengths(self):
        """The lengths of the rows, ascending, each once."""
        return sorted({len(row) for row in self._rows})

    def of_length(self, length):
        """The rows of this length, ascending."""
        check_number(length, 0, MOST_POINTS)
        return [row for row in self._rows if len(row) == length]


def world_steps(world):
    """The steps of the world, from each of its closed lots."""
    return steps_above(mark_bits(world), 0)


def full_rows_of(steps):
    """All tight full rows in ascending order, however many."""
    found = []
    pairs = _first_pairs(steps)
    while pairs:
        found.extend([row for row, lot in pairs if not steps[lot]])
        pairs = _longer_pairs(steps, pairs)
    return sorted(found)


def lengths_of(steps):
    """The lengths of the tight full rows, ascending."""
    whole = whole_lot(steps)
    return [length for length, level in enumerate(_levels(steps)) if whole in level]


def least_rows(steps):
    """For each number of points the closures of tight rows, each with the least tight row that has it."""
    levels = []
    level = {_first_closed(steps): ()}
    while level:
        levels.append(level)
        level = _next_least(steps, level)
    return levels


def whole_lot(steps):
    """The lot of all points, as a number."""
    # A lot that another one contains is the lesser number.
    return max(steps)


def _first_closed(steps):
    # All closed lots contain the closure of the empty lot.
    return min(steps)


def _next_least(steps, level):
    following = {}
    for lot, row in level.items():
        for point, after in steps[lot].items():
            longer = row + (point,)
            following[after] = min(following.get(after, longer), longer)
    return following


def _levels(steps):
    """For each length of tight rows: their closures, each with the number of rows that have it."""
    levels = []
    level = {_first_closed(steps): 1}
    while level:
        levels.append(level)
        level = _next_level(steps, level)
    return levels


def _next_level(steps, level):
    following = {}
    for lot, many in level.items():
        for after in steps[lot].values():
            following[after] = following.get(after, 0) + many
    return following


def _count_full(steps, levels):
    whole = whole_lot(steps)
    return sum([level.get(whole, 0) for level in levels])


def _reach(steps):
    """For each closure the greatest number of points that can still follow."""
    reach = {}
    for lot in sorted(steps, reverse=True):
        reach[lot] = max([reach[after] + 1 for after in steps[lot].values()], default=0)
    return reach


def _first_pairs(steps):
    return [((), _first_closed(steps))]


def _longer_pairs(steps, pairs):
    """The pairs of a tight row and its closure, with each point added that can follow."""
    return [(row + (point,), after) for row, lot in pairs for point, after in steps[lot].items()]
