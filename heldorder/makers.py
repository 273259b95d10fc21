"""Worlds of well known kinds, and worlds that are made of other worlds."""

from heldorder.checks import check_move_on, check_number
from heldorder.errors import MOST_POINTS, TooMany
from heldorder.moves import join_cycles, renamed
from heldorder.orbits import orbits
from heldorder.worlds import World

MOST_FREE = 5
MOST_CORNERS = 3
MOST_SIDES = 4


def ring(points):
    """The world of the turns of a ring."""
    check_number(points, 1, MOST_POINTS)
    return World(points, [_turn(points)])


def polygon(points):
    """The world of the turns and the reflections of a polygon."""
    check_number(points, 1, MOST_POINTS)
    return World(points, [_turn(points), tuple([(points - point) % points for point in range(points)])])


def all_moves(points):
    """The world of all moves of the points."""
    check_number(points, 0, MOST_FREE)
    return World(points, [join_cycles(points, [(point, point + 1)]) for point in range(points - 1)])


def cube_corners(size):
    """The world of the corners of the cube of this size."""
    check_number(size, 0, MOST_CORNERS)
    points = 1 << size
    told = [join_cycles(points, _paired_corners(points, axis)) for axis in range(size - 1)]
    if size > 0:
        told = [join_cycles(points, [(corner, corner + 1) for corner in range(0, points, 2)])] + told
    return World(points, told)


def cube_sides(size):
    """The world of the sides of the cube of this size."""
    check_number(size, 0, MOST_SIDES)
    points = 2 * size
    told = [join_cycles(points, [(side, side + 2), (side + 1, side + 3)]) for side in range(0, points - 2, 2)]
    if size > 0:
        told = [join_cycles(points, [(0, 1)])] + told
    return World(points, told)


def side_by_side(first, second):
    """The world of the two worlds side by side."""
    points = first.points + second.points
    _check_many_points(points)
    told = [_placed(points, 0, move) for move in first.told]
    return World(points, told + [_placed(points, first.points, move) for move in second.told])


def within(inner, outer):
    """The world of one copy of the inner world for each point of the outer one."""
    size = inner.points
    points = size * outer.points
    _check_many_points(points)
    told = [_placed(points, lot[0] * size, move) for lot in orbits(outer) for move in inner.told]
    return World(points, told + [_of_copies(size, move) for move in outer.told])


def renamed_world(world, by):
    """The world in which each point p of the given one has the name by[p]."""
    check_move_on(world.points, by)
    return World(world.points, [renamed(move, by) for move in world.told])


def _turn(points):
    return join_cycles(points, [tuple(range(points))])


def _paired_corners(points, axis):
    """The pairs of corners that change places if the ends at the axis and at the next one are exchanged."""
    # A corner whose two ends are alike stays; the pair is found at the corner with end 1 at the lower axis alone.
    step = 1 << axis
    return [(corner, corner + step) for corner in range(points) if corner // step % 4 == 1]


def _check_many_points(points):
    if points > MOST_POINTS:
        raise TooMany("points", MOST_POINTS)


def _placed(points, start, move):
    """The move on so many points that does the given one from the point `start` on and holds all others."""
    inside = tuple([start + image for image in move])
    return tuple(range(start)) + inside + tuple(range(start + len(move), points))


def _of_copies(size, move):
    """The move of copies with so many points that carries the copies as the given one carries points."""
    return tuple([image * size + point for image in move for point in range(size)])
