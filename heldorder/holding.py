"""Which made moves hold points, and what they do with the other points."""

from heldorder.checks import check_moves, check_point, check_points, check_row, is_move_on
from heldorder.errors import MOST_LIST
from heldorder.moves import carry, still_move
from heldorder.worlds import World, make_all


def those_holding(moves, lot):
    """Those of the moves that hold each point of the lot, nothing checked."""
    return [move for move in moves if carry(move, lot) == tuple(lot)]


def held_by_all(points, moves):
    """The lot of the points that each of the moves holds, nothing checked."""
    return tuple([point for point in range(points) if all([move[point] == point for move in moves])])


def holders(world, lot):
    """The made moves that hold each point of the lot, ascending."""
    check_row(world.points, lot)
    return those_holding(world, lot)


def holder_world(world, lot):
    """The world whose made moves are the holders of the lot."""
    taken = []
    made = [still_move(world.points)]
    for move in holders(world, lot):
        if move not in made:
            taken.append(move)
            made = make_all(world.points, taken)
    return World(world.points, taken)


def movers(world, lot, point):
    """The holders of the lot that move the point, ascending."""
    check_row(world.points, lot)
    check_point(world.points, point)
    return [move for move in those_holding(world, lot) if move[point] != point]


def first_mover(world, lot, point):
    """The least mover of the point behind the lot, or None."""
    found = movers(world, lot, point)
    return found[0] if found else None


def is_mover(world, lot, point, move):
    """Whether the value is a mover of the point behind the lot."""
    found = movers(world, lot, point)
    # Without the first test a tuple with True in the place of 1 would count.
    return is_move_on(world.points, move) and move in found


def holder_counts(world, row):
    """The numbers of holders of the first 0, 1, .. points of the row."""
    check_row(world.points, row)
    left = world.made
    counts = [len(left)]
    for point in row:
        left = those_holding(left, (point,))
        counts.append(len(left))
    return counts


def orbit_under(world, lot, point):
    """The lot of the points to which holders of the lot carry the point."""
    check_row(world.points, lot)
    check_point(world.points, point)
    return tuple(sorted({move[point] for move in those_holding(world, lot)}))


def row_images(world, row):
    """The different rows to which made moves carry the row, ascending."""
    check_row(world.points, row)
    return sorted({carry(move, row) for move in world})


def common_held(points, moves):
    """The lot of the points that each of the moves holds."""
    check_points(points)
    check_moves(points, moves, "list", MOST_LIST)
    return held_by_all(points, moves)
