"""Base lots, inner lengths and ranks."""

from heldorder.checks import check_point, check_row, is_tuple_of
from heldorder.closure import all_closures, bits_of, has_point, in_lot_order, lot_of, mark_bits, steps_above
from heldorder.errors import NotABase, NotInside, OrderMatters
from heldorder.exchange import first_failing
from heldorder.listing import least_rows, lengths_of, world_steps
from heldorder.rows import is_full


def base_lots(world):
    """The lots of the tight full rows, in the order of lots."""
    closures = all_closures(mark_bits(world))
    # Each lot without one of its points is a lesser number, so it is known whether it has a tight order.
    ordered = [True]
    for bits in range(1, len(closures)):
        last = [x for x in lot_of(bits) if ordered[bits ^ (1 << x)] and not has_point(closures[bits ^ (1 << x)], x)]
        ordered.append(last != [])
    found = [bits for bits, closed in enumerate(closures) if ordered[bits] and closed == closures[-1]]
    return in_lot_order([lot_of(bits) for bits in found])


def lean_lots(world):
    """The full lots without a point that can be left out, in the order of lots."""
    closures = all_closures(mark_bits(world))
    full = [bits for bits, closed in enumerate(closures) if closed == closures[-1]]
    lean = [bits for bits in full if not any([closures[bits ^ (1 << x)] == closures[-1] for x in lot_of(bits)])]
    return in_lot_order([lot_of(bits) for bits in lean])


def is_base_lot(world, lot):
    """Whether the lot is a base lot."""
    # A tight row of all points of the lot has the greatest inner length that is possible.
    return is_full(world, lot) and len(set(lot)) in inner_lengths(world, lot)


def exchange_point(world, first, second, point):
    """The least point of the second lot that can stand for the point of the first one, or None."""
    check_row(world.points, first)
    check_row(world.points, second)
    check_point(world.points, point)
    _check_bases(world, first, second)
    if point not in first or point in second:
        raise NotInside(point)
    for new in sorted(set(second)):
        if new not in first and is_base_lot(world, _replaced(first, point, new)):
            return new
    return None


def base_path(world, first, second):
    """The base path from the first lot to the second that replaces the least point each time."""
    check_row(world.points, first)
    check_row(world.points, second)
    _check_bases(world, first, second)
    _check_order(world)
    start = tuple(sorted(set(first)))
    path = [start]
    for point in start:
        # Each new point is one of the second lot, so the least point to replace is never a new one.
        if point not in second:
            path.append(_replaced(path[-1], point, exchange_point(world, path[-1], second, point)))
    return path


def is_base_path(world, first, second, value):
    """Whether the value is a base path from the first lot to the second."""
    check_row(world.points, first)
    check_row(world.points, second)
    # Each step brings in one more point of the second lot.
    if not isinstance(value, (list, tuple)) or not 1 <= len(value) <= world.points + 1:
        return False
    if any([not _is_base_tuple(world, lot) for lot in value]):
        return False
    if bits_of(value[0]) != bits_of(first) or bits_of(value[-1]) != bits_of(second):
        return False
    return all([_is_base_step(value[index], lot, second) for index, lot in enumerate(value[1:])])


def inner_lengths(world, lot):
    """The numbers of points of the tight rows within the lot that have its closure, ascending."""
    check_row(world.points, lot)
    bits = bits_of(lot)
    # Within the lot a row has the closure of the lot if and only if it holds all points of the lot.
    within = sorted({mark & bits for mark in mark_bits(world)})
    return lengths_of(steps_above(within, 0))


def rank(world, lot):
    """The only inner length of the lot."""
    check_row(world.points, lot)
    _check_order(world)
    return inner_lengths(world, lot)[0]


def rank_defect(world, first, second):
    """By how much the ranks of the two lots exceed those of their union and of what they have in common."""
    check_row(world.points, first)
    check_row(world.points, second)
    _check_order(world)
    one, other = bits_of(first), bits_of(second)
    ranks = [inner_lengths(world, lot_of(bits))[0] for bits in (one, other, one | other, one & other)]
    return ranks[0] + ranks[1] - ranks[2] - ranks[3]


def rank_levels(world):
    """For each rank the number of closed lots that have it."""
    _check_order(world)
    # A closed lot has its rank as the length of each tight row with this closure.
    return [len(level) for level in least_rows(world_steps(world))]


def _check_bases(world, first, second):
    for place, lot in enumerate((first, second)):
        if not is_base_lot(world, lot):
            raise NotABase(place)


def _check_order(world):
    failing = first_failing(world)
    if failing is not None:
        raise OrderMatters(failing)


def _replaced(lot, point, new):
    """The lot with the new point in the place of the point."""
    return tuple(sorted([other for other in sorted(set(lot)) if other != point] + [new]))


def _is_base_tuple(world, value):
    """Whether the value is a base lot, a tuple in ascending order without duplicates."""
    return is_tuple_of(world.points, value) and value == tuple(sorted(set(value))) and is_base_lot(world, value)


def _is_base_step(before, after, second):
    """Whether one point that is not in the second lot is replaced by one that is."""
    gone = [point for point in before if point not in after]
    new = [point for point in after if point not in before]
    return len(gone) == 1 and len(new) == 1 and gone[0] not in second and new[0] in second
