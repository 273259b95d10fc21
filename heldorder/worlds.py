"""Worlds: told moves, and the made moves that come of doing them in turn."""

from heldorder.checks import check_moves, check_points, is_move_on
from heldorder.errors import MOST_CHECKED, MOST_MADE, MOST_TOLD, TooMany
from heldorder.moves import carry, still_move


def best_words(row, told):
    """Each row to which told moves done in turn carry the row, with the best word that leads there.

    A word is a sequence of indexes of told moves. The best one is the shortest, of several the least.
    The rows that come of the still move are the made moves; more than 400 rows are refused.
    """
    words = {row: ()}
    layer = [row]
    while layer:
        # The layer is in the order of its words, so the first word to reach a row is its best one.
        layer = _next_layer(layer, told, words)
        if len(words) > MOST_MADE:
            raise TooMany("made", MOST_MADE)
    return words


def make_all(points, moves=()):
    """All made moves in ascending order."""
    check_points(points)
    check_moves(points, moves, "told", MOST_TOLD)
    return sorted(best_words(still_move(points), moves))


def is_closed_list(points, moves):
    """Whether the moves ascend, and the still move and each composition of two is among them."""
    check_points(points)
    if len(moves) > MOST_CHECKED:
        raise TooMany("list", MOST_CHECKED)
    if any([not is_move_on(points, value) for value in moves]):
        return False
    known = {move: True for move in moves}
    if list(moves) != sorted(known) or still_move(points) not in known:
        return False
    return all([carry(second, first) in known for first in moves for second in moves])


class World:
    """A number of points and told moves, with all moves that they make."""

    def __init__(self, points, moves=()):
        self._made = make_all(points, moves)
        self._points = points
        self._told = list(moves)

    @property
    def points(self):
        """The number of points."""
        return self._points

    @property
    def told(self):
        """The told moves in order."""
        return list(self._told)

    @property
    def made(self):
        """The made moves in ascending order."""
        return list(self._made)

    def __len__(self):
        return len(self._made)

    def __iter__(self):
        return iter(self._made)

    def __contains__(self, value):
        # Without the first test (True, 0) would count as (1, 0).
        return is_move_on(self._points, value) and value in self._made

    def __eq__(self, other):
        if not isinstance(other, World):
            return False
        return self._points == other._points and self._made == other._made


def needless_told(world):
    """The indexes of the told moves that are made by those in front of them."""
    told = world.told
    return tuple([index for index, move in enumerate(told) if move in make_all(world.points, told[:index])])


def _next_layer(layer, told, words):
    found = []
    for row in layer:
        for index, move in enumerate(told):
            image = carry(move, row)
            if image not in words:
                words[image] = words[row] + (index,)
                found.append(image)
    return found
