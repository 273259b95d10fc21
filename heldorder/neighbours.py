"""Neighbour pairs of tight full rows, and the ways from rows to failings."""

from heldorder.checks import check_row, is_tuple_of
from heldorder.closure import bits_of, closed_bits, has_point, mark_bits
from heldorder.errors import MOST_ROW, NotNeighbours, NotShorter, SameLength, TooMany
from heldorder.exchange import check_failing
from heldorder.rows import check_full, check_tight, completed, is_full, is_tight_full_row, tight_part, without


def two_rows(world, failing):
    """The longer and the shorter row of the failing."""
    check_failing(world, failing)
    held, p, q = failing
    longer = completed(world, held + (q, p))
    return longer, without(longer, len(held))


def left_out(longer, shorter):
    """The least index without which the one row is the other, or None."""
    check_entries(longer, MOST_ROW)
    check_entries(shorter, MOST_ROW)
    for index in range(len(longer)):
        if without(longer, index) == tuple(shorter):
            return index
    return None


def check_entries(row, limit):
    """Refuse a row with too many entries, whatever they are."""
    if len(row) > limit:
        raise TooMany("row", limit)


def is_neighbour_pair(world, longer, shorter):
    """Whether the two values are a neighbour pair."""
    if not is_tight_full_row(world, longer) or not is_tight_full_row(world, shorter):
        return False
    return left_out(longer, shorter) is not None


def failing_of_pair(world, longer, shorter):
    """The failing that the neighbour pair gives back."""
    check_row(world.points, longer)
    check_row(world.points, shorter)
    if not is_neighbour_pair(world, longer, shorter):
        raise NotNeighbours()
    q = longer[left_out(longer, shorter)]
    last = _last_needed(mark_bits(world), shorter, q)
    return tuple(shorter[:last]), shorter[last], q


def walk_back(world, shorter, longer):
    """The rows of the walk back from the full row to the longer tight row, and its failing."""
    check_row(world.points, shorter)
    check_row(world.points, longer)
    check_full(world, shorter)
    check_tight(world, longer)
    if len(shorter) >= len(longer):
        raise NotShorter(len(shorter), len(longer))
    marked = mark_bits(world)
    rows = [tuple(shorter)]
    # The walk always comes to its failing before all points of the longer row have been put in.
    for index, q in enumerate(longer):
        row = rows[-1]
        last = _last_needed(marked, row, q)
        if not _holds(marked, row[:last] + (q,), row[last]):
            break
        rows.append(tuple(longer[:index + 1]) + row[index:last] + row[last + 1:])
    return rows, (tight_part(world, row[:last]), row[last], q)


def is_walk(world, shorter, longer, rows):
    """Whether the value is a list of full rows as a walk from the one row to the other makes them."""
    check_row(world.points, shorter)
    check_row(world.points, longer)
    most = min(len(shorter), len(longer)) + 1
    if not isinstance(rows, (list, tuple)) or not 1 <= len(rows) <= most:
        return False
    if any([not _is_full_tuple(world, row, len(shorter)) for row in rows]):
        return False
    steps = [_is_step(rows[index], row, longer, index + 1) for index, row in enumerate(rows[1:])]
    return rows[0] == tuple(shorter) and all(steps)


def find_failing(world, first, second):
    """The failing of the walk back from the shorter to the longer one of two tight full rows."""
    check_row(world.points, first)
    check_row(world.points, second)
    check_tight_full(world, first)
    check_tight_full(world, second)
    if len(first) == len(second):
        raise SameLength(len(first))
    shorter, longer = (first, second) if len(first) < len(second) else (second, first)
    return walk_back(world, shorter, longer)[1]


def check_tight_full(world, row):
    """Refuse a row that is not tight, or else not full."""
    check_tight(world, row)
    check_full(world, row)


def _holds(marked, row, point):
    """Whether the point is in the closure of the row."""
    return has_point(closed_bits(marked, bits_of(row)), point)


def _last_needed(marked, row, point):
    """The least index of the row such that its points up to there hold the point; the row does."""
    index = 0
    while not _holds(marked, row[:index + 1], point):
        index += 1
    return index


def _is_full_tuple(world, value, length):
    """Whether the value is a tuple with so many entries that is a full row."""
    return is_tuple_of(world.points, value) and len(value) == length and is_full(world, value)


def _is_step(before, after, longer, index):
    """Whether the second row may follow the first one on a walk, at this index."""
    if after[:index] != tuple(longer[:index]):
        return False
    return left_out(before[index - 1:], after[index:]) is not None
