"""What the functions of the program refuse in their arguments."""

from heldorder.errors import MOST_POINTS, MOST_ROW, BadNumber, NotAMove, NotAPoint, TooMany


def is_number(value, low, high):
    """Whether the value is a whole number from low to high."""
    # True and False are integers for Python, but no whole numbers here.
    return isinstance(value, int) and not isinstance(value, bool) and low <= value <= high


def is_point(points, value):
    """Whether the value is one of this many points."""
    return is_number(value, 0, points - 1)


def is_row_of(points, value):
    """Whether the value is a list or a tuple of at most 24 of this many points."""
    if not isinstance(value, (list, tuple)) or len(value) > MOST_ROW:
        return False
    return all([is_point(points, entry) for entry in value])


def is_tuple_of(points, value):
    """Whether the value is a tuple of at most 24 of this many points."""
    return isinstance(value, tuple) and is_row_of(points, value)


def is_move_on(points, value):
    """Whether the value is a move on this number of points."""
    # The length comes first: the value may have very many entries.
    if not isinstance(value, tuple) or len(value) != points:
        return False
    # Only whole numbers can be sorted among each other without fail.
    return all([is_point(points, image) for image in value]) and sorted(value) == list(range(points))


def check_number(value, low, high):
    """Refuse what is not a whole number from low to high."""
    if not is_number(value, low, high):
        raise BadNumber(value, low, high)


def check_points(value):
    """Refuse what is not a number of points."""
    check_number(value, 0, MOST_POINTS)


def check_point(points, value):
    """Refuse what is not one of this many points."""
    if not is_point(points, value):
        raise NotAPoint(value)


def check_row(points, row):
    """Refuse what is not a row, or not a lot, of this many points."""
    if len(row) > MOST_ROW:
        raise TooMany("row", MOST_ROW)
    for value in row:
        check_point(points, value)


def check_move_on(points, value):
    """Refuse what is not a move on this number of points; it is the only move parameter."""
    if not is_move_on(points, value):
        raise NotAMove(0)


def check_moves(points, moves, what, limit):
    """Refuse a list that is too long, or with an entry that is not a move on this number of points."""
    if len(moves) > limit:
        raise TooMany(what, limit)
    for index, value in enumerate(moves):
        if not is_move_on(points, value):
            raise NotAMove(index)
