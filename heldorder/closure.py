"""Closures: the points that are held together with a lot.

Inside the program a lot is often kept as a whole number: bit p says that it contains p. Marks are then kept as the
ascending list of their numbers; the last one, of the still move, is the lot of all points and contains every lot.
"""

from heldorder.checks import check_points, check_row
from heldorder.errors import MOST_LOTS, TooMany


def closure(world, lot):
    """The lot of the points that every holder of the lot holds."""
    check_row(world.points, lot)
    return lot_of(closed_bits(mark_bits(world), bits_of(lot)))


def is_closed(world, lot):
    """Whether the lot is its own closure."""
    return bits_of(closure(world, lot)) == bits_of(lot)


def same_hold(world, first, second):
    """Whether the two lots have the same closure."""
    return closure(world, first) == closure(world, second)


def marks(world):
    """The different lots that the made moves hold, in the order of lots."""
    return in_lot_order([lot_of(bits) for bits in mark_bits(world)])


def closure_by_marks(points, lots, lot):
    """What those of the lots that contain the lot have in common."""
    check_points(points)
    if len(lots) > MOST_LOTS:
        raise TooMany("list", MOST_LOTS)
    for other in lots:
        check_row(points, other)
    check_row(points, lot)
    # The lot of all points stands in for the lots where none contains the lot.
    whole = (1 << points) - 1
    return lot_of(closed_bits([bits_of(other) for other in lots] + [whole], bits_of(lot)))


def in_lot_order(lots):
    """The lots in the order of lots."""
    return sorted(lots, key=lambda lot: (len(lot), lot))


def bits_of(lot):
    """The number of the lot; its points may stand in it twice."""
    return sum([1 << point for point in sorted(set(lot))])


def lot_of(bits):
    """The lot of the number."""
    return tuple([point for point in range(bits.bit_length()) if has_point(bits, point)])


def has_point(bits, point):
    """Whether the lot of the number contains the point."""
    return bits & (1 << point) != 0


def mark_bits(world):
    """The marks of the world as numbers."""
    return sorted({sum([1 << point for point, image in enumerate(move) if image == point]) for move in world})


def closed_bits(marked, bits):
    """What those of the marks that contain the lot have in common; all are numbers."""
    closed = marked[-1]
    for mark in marked:
        if mark & bits == bits:
            closed = closed & mark
    return closed


def steps_at(marked, closed):
    """For each point outside the closed lot, ascending, the closure of the lot with it added; all are numbers."""
    outside = lot_of(marked[-1] ^ closed)
    return {point: closed_bits(marked, closed | (1 << point)) for point in outside}


def steps_above(marked, bits):
    """For each closed lot that contains the lot its steps; all are numbers."""
    steps = {}
    waiting = [closed_bits(marked, bits)]
    while waiting:
        closed = waiting.pop()
        if closed not in steps:
            steps[closed] = steps_at(marked, closed)
            waiting.extend(list(steps[closed].values()))
    return steps


def all_closures(marked):
    """The closure of each lot of a whole world, at the index that is the number of the lot; all are numbers."""
    whole = marked[-1]
    closures = [whole] * (whole + 1)
    for mark in marked:
        closures[mark] = mark
    # After the rounds of some points each lot has what those marks have in common that come of it by adding
    # some of these points and no others. After all rounds these are the marks that contain it.
    for point in range(whole.bit_length()):
        for bits in range(whole + 1):
            if not has_point(bits, point):
                closures[bits] = closures[bits] & closures[bits | (1 << point)]
    return closures
