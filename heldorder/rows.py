"""Rows of points: tight, loose, full and lean ones, and what shows it."""

from heldorder.checks import check_row, is_row_of
from heldorder.closure import closure
from heldorder.errors import NotFull, NotTight, UnlikeSizes
from heldorder.holding import first_mover, holder_counts, holders, is_mover, those_holding
from heldorder.moves import carry


def loose_indexes(world, row):
    """The indexes at which every holder of the points in front holds the point, too."""
    counts = holder_counts(world, row)
    # The holders of more points are among those of fewer: equally many are the same ones.
    return tuple([index for index in range(len(row)) if counts[index + 1] == counts[index]])


def is_tight(world, row):
    """Whether the row is loose nowhere."""
    return not loose_indexes(world, row)


def is_full(world, row):
    """Whether the still move is the only holder of the row."""
    return len(holders(world, row)) == 1


def is_lean(world, row):
    """Whether the row is full and has no needless index."""
    return is_full(world, row) and not needless_indexes(world, row)


def tight_part(world, row):
    """The row without the points at its loose indexes."""
    loose = loose_indexes(world, row)
    return tuple([point for index, point in enumerate(row) if index not in loose])


def completed(world, row):
    """The row, followed by the least moved point as long as there is one."""
    left = holders(world, row)
    longer = list(row)
    # A point that is passed is held from then on, so one pass in ascending order is enough.
    for point in range(world.points):
        still_left = those_holding(left, (point,))
        if len(still_left) < len(left):
            longer.append(point)
            left = still_left
    return tuple(longer)


def needless_indexes(world, row):
    """The indexes without which the row has the same holders."""
    many = len(holders(world, row))
    return tuple([index for index in range(len(row)) if len(holders(world, without(row, index))) == many])


def tightness_proof(world, row):
    """For each index the least mover of the point there behind the points in front."""
    check_tight(world, row)
    return tuple([first_mover(world, row[:index], point) for index, point in enumerate(row)])


def shows_tight(world, row, moves):
    """Whether the value is a tightness proof of the row."""
    check_row(world.points, row)
    if not isinstance(moves, tuple) or len(moves) != len(row):
        return False
    return all([is_mover(world, row[:index], row[index], move) for index, move in enumerate(moves)])


def move_by_images(world, row, images):
    """The made move that carries the full row to the images, or None."""
    check_row(world.points, row)
    check_row(world.points, images)
    check_full(world, row)
    if len(row) != len(images):
        raise UnlikeSizes(len(row), len(images))
    for move in world:
        if carry(move, row) == tuple(images):
            return move
    return None


def without(row, index):
    """The tuple of the row without its entry at the index."""
    return tuple(row[:index]) + tuple(row[index + 1:])


def check_tight(world, row):
    """Refuse a row that is loose somewhere."""
    loose = loose_indexes(world, row)
    if loose:
        raise NotTight(loose[0])


def check_full(world, row):
    """Refuse a row that is not full."""
    closed = closure(world, row)
    outside = [point for point in range(world.points) if point not in closed]
    if outside:
        raise NotFull(outside[0])


def is_tight_full_row(world, value):
    """Whether the value is a list or a tuple that is a tight full row."""
    return is_row_of(world.points, value) and is_tight(world, value) and is_full(world, value)
