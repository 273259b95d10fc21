"""Moves of points: doing them in turn, undoing them, their cycles."""

from math import lcm

from heldorder.checks import check_moves, check_number, check_point, check_points, check_row, is_move_on
from heldorder.errors import (
    MOST_LIST, MOST_POINTS, MOST_POWER, MOST_ROW, NotAMove, RepeatedPoint, TooMany, UnlikeSizes,
)

MOST_CYCLES = 24


def carry(move, row):
    """The images of the row's points, nothing checked.

    A move is the row of its images. So to do `first` and then `second` is to carry the row `first` by `second`.
    """
    return tuple([move[point] for point in row])


def is_move(value):
    """Whether the value is a move on 0 to 12 points."""
    return isinstance(value, tuple) and len(value) <= MOST_POINTS and is_move_on(len(value), value)


def check_move(value, place):
    """Refuse what is not a move; the place is the one among the move parameters."""
    if not is_move(value):
        raise NotAMove(place)


def still_move(points):
    """The move that holds each of this many points."""
    check_points(points)
    return tuple(range(points))


def compose(first, second):
    """The move that does the first move and afterwards the second one."""
    _check_like_moves(first, second)
    return carry(second, first)


def opposite(move):
    """The move that undoes the move."""
    check_move(move, 0)
    return tuple([move.index(point) for point in range(len(move))])


def power(move, times):
    """The move done so many times in turn, or its opposite if the number is below 0."""
    check_move(move, 0)
    check_number(times, -MOST_POWER, MOST_POWER)
    step = opposite(move) if times < 0 else move
    result = still_move(len(move))
    for _ in range(abs(times)):
        result = carry(step, result)
    return result


def in_turn(points, moves):
    """The move that does the moves of the list in turn."""
    check_points(points)
    check_moves(points, moves, "list", MOST_LIST)
    result = still_move(points)
    for move in moves:
        result = carry(move, result)
    return result


def carried(move, row):
    """The images of the row's points."""
    check_move(move, 0)
    check_row(len(move), row)
    return carry(move, row)


def renamed(move, by):
    """The move in which each point p of the given one has the name by[p]."""
    _check_like_moves(move, by)
    # Back to the old name, then the move, then to the new name.
    return carry(by, carry(move, opposite(by)))


def held_points(move):
    """The lot of the points that the move carries to themselves."""
    check_move(move, 0)
    return tuple([point for point, image in enumerate(move) if image == point])


def moved_points(move):
    """The lot of the points that the move carries to others."""
    check_move(move, 0)
    return tuple([point for point, image in enumerate(move) if image != point])


def cycles(move):
    """The cycles of the move, each from its least point on, by their first points."""
    rows = [_cycle_from(move, start) for start in moved_points(move)]
    # Each cycle is met once from each of its points.
    return [row for row in rows if row[0] == min(row)]


def from_cycles(points, rows):
    """The move that carries each point of a row to the next one and the last one to the first."""
    check_points(points)
    if len(rows) > MOST_CYCLES:
        raise TooMany("cycles", MOST_CYCLES)
    earlier = []
    for row in rows:
        _check_cycle(points, row, earlier)
        earlier = earlier + list(row)
    return join_cycles(points, rows)


def join_cycles(points, rows):
    """The move of from_cycles, nothing checked."""
    move = list(range(points))
    for row in rows:
        for index, point in enumerate(row):
            move[point] = row[(index + 1) % len(row)]
    return tuple(move)


def round_length(move):
    """The least number of times, at least 1, that the move must be done to come back."""
    rounds = 1
    for row in cycles(move):
        rounds = lcm(rounds, len(row))
    return rounds


def _check_like_moves(first, second):
    check_move(first, 0)
    check_move(second, 1)
    if len(first) != len(second):
        raise UnlikeSizes(len(first), len(second))


def _check_cycle(points, row, earlier):
    if len(row) > MOST_ROW:
        raise TooMany("row", MOST_ROW)
    for index, point in enumerate(row):
        check_point(points, point)
        if point in earlier or point in row[:index]:
            raise RepeatedPoint(point)


def _cycle_from(move, start):
    row = [start]
    while move[row[-1]] != start:
        row.append(move[row[-1]])
    return tuple(row)
