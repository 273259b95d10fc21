"""Failings: locks that do not exchange, and what shows them."""

from heldorder.checks import check_point, check_row, is_point, is_tuple_of
from heldorder.closure import (
    all_closures, bits_of, closed_bits, closure, has_point, in_lot_order, lot_of, mark_bits, steps_at,
)
from heldorder.errors import NotAFailing
from heldorder.flats import lots_above
from heldorder.listing import least_rows, world_steps
from heldorder.rows import is_tight, tight_part


def failed_condition(world, held, p, q):
    """The first condition that keeps the three from being a failing, or 0 if they are one."""
    check_row(world.points, held)
    check_point(world.points, p)
    check_point(world.points, q)
    return _failed_pair(world, held, p, q) if is_tight(world, held) else 1


def is_failing(world, value):
    """Whether the value is a failing."""
    return _has_form(world, value) and failed_condition(world, value[0], value[1], value[2]) == 0


def check_failing(world, value):
    """Refuse what is not a failing."""
    if not _has_form(world, value):
        raise NotAFailing(0)
    condition = failed_condition(world, value[0], value[1], value[2])
    if condition:
        raise NotAFailing(condition)


def failing_pairs(world, lot):
    """All failing pairs of the lot, ascending."""
    check_row(world.points, lot)
    marked = mark_bits(world)
    return _pairs_of(steps_at(marked, closed_bits(marked, bits_of(lot))))


def failing_from(world, lot, p, q):
    """The failing that a failing pair of the lot gives."""
    check_row(world.points, lot)
    check_point(world.points, p)
    check_point(world.points, q)
    condition = _failed_pair(world, lot, p, q)
    if condition:
        raise NotAFailing(condition)
    return tight_part(world, sorted(set(lot))), p, q


def exchanges_at(world, lot):
    """Whether locks exchange at the lot."""
    return not failing_pairs(world, lot)


def exchanges(world):
    """Whether locks exchange in the world."""
    # A lot has the failing pairs of its closure.
    return not any([_pairs_of(after) for after in world_steps(world).values()])


def first_failing(world):
    """The failing with the fewest held points, of these the least, or None."""
    steps = world_steps(world)
    for level in least_rows(steps):
        failing = [(row, closed) for closed, row in level.items() if _pairs_of(steps[closed])]
        if failing:
            held, closed = min(failing)
            p, q = _pairs_of(steps[closed])[0]
            return held, p, q
    return None


def least_holds(world, point):
    """The least lots without the point that hold it, in the order of lots."""
    check_point(world.points, point)
    return _least_holds(all_closures(mark_bits(world)), point)


def lopsided_hold(world):
    """The first least hold, with its point, that gives a failing pair with one point x of it, or None."""
    closures = all_closures(mark_bits(world))
    for p in range(world.points):
        for lot in _least_holds(closures, p):
            for x in lot:
                if not has_point(closures[(bits_of(lot) ^ (1 << x)) | (1 << p)], x):
                    return p, lot, x
    return None


def overlapping_lots(world, lot):
    """The first two lots above the lot with a common point that the lot does not hold, and that point, or None."""
    closed = closure(world, lot)
    above = lots_above(world, lot)
    for index, first in enumerate(above):
        for second in above[index + 1:]:
            common = [point for point in first if point in second and point not in closed]
            if common:
                return first, second, common[0]
    return None


def _has_form(world, value):
    """Whether the value is a tuple of a tuple of at most 24 points and two points."""
    if not isinstance(value, tuple) or len(value) != 3 or not is_tuple_of(world.points, value[0]):
        return False
    return is_point(world.points, value[1]) and is_point(world.points, value[2])


def _failed_pair(world, lot, p, q):
    """The first of the conditions 2 to 4 that the lot and the points do not fulfil, or 0."""
    marked = mark_bits(world)
    closed = closed_bits(marked, bits_of(lot))
    if has_point(closed, q):
        return 2
    if not has_point(closed_bits(marked, closed | (1 << p)), q):
        return 3
    if has_point(closed_bits(marked, closed | (1 << q)), p):
        return 4
    return 0


def _pairs_of(after):
    """The failing pairs of a closed lot, of which the steps are given, ascending."""
    return [(p, q) for p in after for q in after if has_point(after[p], q) and not has_point(after[q], p)]


def _least_holds(closures, point):
    holds = [bits for bits, closed in enumerate(closures) if has_point(closed, point) and not has_point(bits, point)]
    return in_lot_order([lot_of(bits) for bits in holds if not _holds_with_less(closures, bits, point)])


def _holds_with_less(closures, bits, point):
    """Whether the point is held by the lot without one of its points."""
    return any([has_point(closures[bits ^ (1 << x)], point) for x in lot_of(bits)])
