"""Orders of the points of a row: which of them are tight, and whether order matters."""

from heldorder.checks import check_row, is_number, is_tuple_of
from heldorder.closure import bits_of, closed_bits, has_point, mark_bits
from heldorder.errors import NotAnOrder
from heldorder.exchange import exchanges, first_failing
from heldorder.neighbours import check_tight_full, two_rows
from heldorder.rows import check_tight, is_tight_full_row, loose_indexes, needless_indexes, tight_part, without
from heldorder.stretch import exchanged


def every_order_tight(world, row):
    """Whether every re-ordering of the tight full row is tight."""
    return bad_order(world, row) is None


def bad_order(world, row):
    """The bad order of the tight full row, or None if the row is lean."""
    check_row(world.points, row)
    check_tight_full(world, row)
    needless = needless_indexes(world, row)
    if not needless:
        return None
    return tuple(row), without(row, needless[0]) + (row[needless[0]],), len(row) - 1


def is_bad_order(world, value):
    """Whether the value is a bad order."""
    if not isinstance(value, tuple) or len(value) != 3:
        return False
    row, other, index = value
    if not is_tuple_of(world.points, row) or not is_tuple_of(world.points, other):
        return False
    if not is_tight_full_row(world, row) or sorted(row) != sorted(other):
        return False
    return is_number(index, 0, len(other) - 1) and index in loose_indexes(world, other)


def count_tight_orders(world, row):
    """The number of re-orderings of the tight row that are tight."""
    check_row(world.points, row)
    check_tight(world, row)
    marked = mark_bits(world)
    # For each lot of some points of the row the number of its tight orders.
    counts = {0: 1}
    for _ in range(len(row)):
        counts = _longer_counts(marked, row, counts)
    return counts[bits_of(row)]


def order_from_failing(world, failing):
    """The bad order of the failing."""
    longer, _ = two_rows(world, failing)
    place = len(failing[0])
    return longer, exchanged(longer, place), place + 1


def shorter_from_order(world, value):
    """The tight full row that is left of the other row of a bad order."""
    if not is_bad_order(world, value):
        raise NotAnOrder()
    return tight_part(world, value[1])


def order_matters(world):
    """Whether the world has a bad order."""
    return not exchanges(world)


def first_bad_order(world):
    """The bad order of the first failing, or None."""
    failing = first_failing(world)
    return None if failing is None else order_from_failing(world, failing)


def _longer_counts(marked, row, counts):
    """The numbers of tight orders of the lots with one point of the row more."""
    longer = {}
    for bits, many in counts.items():
        closed = closed_bits(marked, bits)
        for point in row:
            if not has_point(closed, point):
                after = bits | (1 << point)
                longer[after] = longer.get(after, 0) + many
    return longer
