"""Closed lots: what lies above a lot, joins and meets, and chains."""

from heldorder.checks import check_row, is_tuple_of
from heldorder.closure import (
    bits_of, closed_bits, closure, in_lot_order, is_closed, lot_of, mark_bits, steps_at,
)
from heldorder.errors import NotAChain
from heldorder.listing import least_rows, whole_lot, world_steps
from heldorder.rows import check_tight


def closed_lots(world):
    """All closed lots in the order of lots."""
    return in_lot_order([lot_of(bits) for bits in world_steps(world)])


def lots_above(world, lot):
    """The closures of the lot with one point added that it does not hold, in the order of lots."""
    check_row(world.points, lot)
    return in_lot_order([lot_of(bits) for bits in _above(world, lot)])


def covers(world, lot):
    """The closed lots that strictly contain the closure of the lot, with none between, in the order of lots."""
    check_row(world.points, lot)
    above = _above(world, lot)
    # Each closed lot between would contain one of the lots above.
    least = [bits for bits in above if not any([_is_within(other, bits) for other in above])]
    return in_lot_order([lot_of(bits) for bits in least])


def join_lots(world, first, second):
    """The closure of the union of the two lots."""
    check_row(world.points, first)
    check_row(world.points, second)
    return lot_of(closed_bits(mark_bits(world), bits_of(first) | bits_of(second)))


def meet_lots(world, first, second):
    """What the closures of the two lots have in common."""
    return lot_of(bits_of(closure(world, first)) & bits_of(closure(world, second)))


def height(world):
    """The number of lots of a longest chain, minus one."""
    return len(longest_chain(world)) - 1


def longest_chain(world):
    """A longest chain."""
    steps = world_steps(world)
    # A longest tight row is full, and its prefixes give a longest chain.
    return chain_of_row(world, least_rows(steps)[-1][whole_lot(steps)])


def is_chain(world, lots):
    """Whether the value is a chain of the world."""
    # Each lot of a chain has at least one point more than the lot in front of it.
    if not isinstance(lots, (list, tuple)) or not 1 <= len(lots) <= world.points + 1:
        return False
    if any([not _is_closed_lot(world, lot) for lot in lots]):
        return False
    if lots[0] != closure(world, ()) or len(lots[-1]) != world.points:
        return False
    rising = [_is_within(bits_of(lot), bits_of(lots[index + 1])) for index, lot in enumerate(lots[:-1])]
    return all(rising)


def chain_of_row(world, row):
    """The closures of the prefixes of the tight row, from the empty prefix to the whole row."""
    check_row(world.points, row)
    check_tight(world, row)
    return [closure(world, row[:length]) for length in range(len(row) + 1)]


def row_of_chain(world, lots):
    """The row of the least new point of each lot of the chain but the first."""
    if not is_chain(world, lots):
        raise NotAChain()
    new = [bits_of(lot) ^ bits_of(lots[index]) for index, lot in enumerate(lots[1:])]
    return tuple([lot_of(bits)[0] for bits in new])


def _above(world, lot):
    """The numbers of the lots above the lot, each once."""
    marked = mark_bits(world)
    return sorted(set(list(steps_at(marked, closed_bits(marked, bits_of(lot))).values())))


def _is_within(inner, outer):
    """Whether the lot of the one number lies strictly within that of the other."""
    return inner != outer and inner & outer == inner


def _is_closed_lot(world, value):
    """Whether the value is a closed lot, a tuple in ascending order without duplicates."""
    return is_tuple_of(world.points, value) and value == tuple(sorted(set(value))) and is_closed(world, value)
