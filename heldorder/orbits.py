"""Where made moves carry points, and which told moves done in turn lead there."""

from heldorder.checks import check_move_on, check_point, is_number
from heldorder.errors import MOST_LIST, NotMade
from heldorder.moves import carry, still_move
from heldorder.worlds import best_words


def orbit(world, point):
    """The lot of the points to which made moves carry the point."""
    check_point(world.points, point)
    return tuple(sorted({move[point] for move in world}))


def orbits(world):
    """The orbits in ascending order of their least points."""
    lots = [orbit(world, point) for point in range(world.points)]
    # Each orbit is met once from each of its points.
    return [lot for point, lot in enumerate(lots) if lot[0] == point]


def same_orbit(world, first, second):
    """Whether the two points lie in one orbit."""
    check_point(world.points, first)
    check_point(world.points, second)
    return second in orbit(world, first)


def carriers(world, start, goal):
    """The made moves that carry the start to the goal, ascending."""
    check_point(world.points, start)
    check_point(world.points, goal)
    return [move for move in world if move[start] == goal]


def spelling(world, move):
    """The best spelling of the move."""
    check_move_on(world.points, move)
    words = best_words(still_move(world.points), world.told)
    if move not in words:
        raise NotMade(move)
    return words[move]


def is_spelling(world, move, indexes):
    """Whether doing the told moves of the indexes in turn gives the move."""
    check_move_on(world.points, move)
    return _is_word_between(world.told, still_move(world.points), move, indexes)


def longest_spelling(world):
    """The greatest number of indexes in a best spelling."""
    words = best_words(still_move(world.points), world.told)
    return max([len(word) for word in words.values()])


def way(world, start, goal):
    """The best way from the start to the goal, or None."""
    check_point(world.points, start)
    check_point(world.points, goal)
    return best_words((start,), world.told).get((goal,))


def is_way(world, start, goal, indexes):
    """Whether doing the told moves of the indexes in turn carries the start to the goal."""
    check_point(world.points, start)
    check_point(world.points, goal)
    return _is_word_between(world.told, (start,), (goal,), indexes)


def _is_word_between(told, row, goal, word):
    if not isinstance(word, (list, tuple)) or len(word) > MOST_LIST:
        return False
    if any([not is_number(index, 0, len(told) - 1) for index in word]):
        return False
    for index in word:
        row = carry(told[index], row)
    return row == goal
