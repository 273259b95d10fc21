"""Least and greatest lengths, rows that come near them, and what shows that no lot of some size is full."""

from heldorder.checks import check_number, check_points, is_tuple_of
from heldorder.closure import bits_of
from heldorder.errors import MOST_MADE, FullLot
from heldorder.holding import those_holding
from heldorder.moves import carry, held_points, still_move
from heldorder.stretch import lengths, row_of_length


def least_length(world):
    """The least length of the world."""
    return lengths(world)[0]


def greatest_length(world):
    """The greatest length of the world."""
    return lengths(world)[-1]


def least_row(world):
    """The least of the tight full rows with the least length."""
    return row_of_length(world, least_length(world))


def greatest_row(world):
    """The least of the tight full rows with the greatest length."""
    return row_of_length(world, greatest_length(world))


def greedy_row(world):
    """The row to which each time the first point with the greatest orbit is added."""
    # By the opposite numbers the greatest orbit comes first.
    return _row_by_orbits(world, -1)


def lazy_row(world):
    """The row to which each time the first point with the least orbit of at least two points is added."""
    return _row_by_orbits(world, 1)


def length_bounds(points, made):
    """Between which numbers all lengths of a world with so many points and made moves lie."""
    check_points(points)
    check_number(made, 1, MOST_MADE)
    low, most = 0, 1
    while low < points and most < made:
        most = most * (points - low)
        low += 1
    return low, made.bit_length() - 1


def short_paper(world, size):
    """For each lot of this size the least move but the still one that holds it."""
    check_number(size, 0, world.points)
    # The still move is the least of all moves.
    moves = [(bits_of(held_points(move)), move) for move in world.made[1:]]
    paper = []
    for lot in _lots_of(world.points, size):
        bits = bits_of(lot)
        holding = [move for held, move in moves if held & bits == bits]
        if not holding:
            raise FullLot(lot)
        paper.append((lot, holding[0]))
    return tuple(paper)


def shows_none_full(world, size, value):
    """Whether the value is a short paper of this size."""
    check_number(size, 0, world.points)
    lots = _lots_of(world.points, size)
    if not isinstance(value, tuple) or len(value) != len(lots):
        return False
    return all([_is_entry(world, lot, entry) for lot, entry in zip(lots, value)])


def _row_by_orbits(world, sign):
    """The row to which each time the point is added that comes first by its orbit's size with this sign."""
    row, left = (), world.made
    sizes = _orbit_sizes(world.points, left)
    while sizes:
        point = min([(sign * size, point) for point, size in sizes.items()])[1]
        row = row + (point,)
        left = those_holding(left, (point,))
        sizes = _orbit_sizes(world.points, left)
    return row


def _orbit_sizes(points, moves):
    """For each point that is moved the number of points to which all moves of a world carry it."""
    sizes = {point: len({move[point] for move in moves}) for point in range(points)}
    return {point: size for point, size in sizes.items() if size > 1}


def _lots_of(points, size):
    """All lots of this size, ascending."""
    lots = [()]
    for _ in range(size):
        lots = [lot + (point,) for lot in lots for point in range(lot[-1] + 1 if lot else 0, points)]
    return lots


def _is_entry(world, lot, entry):
    """Whether the entry is the lot with a made move that holds it and is not the still move."""
    if not isinstance(entry, tuple) or len(entry) != 2 or not is_tuple_of(world.points, entry[0]):
        return False
    held, move = entry
    if held != lot or move not in world or move == still_move(world.points):
        return False
    return carry(move, lot) == lot
