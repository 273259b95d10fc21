"""The written forms of moves and of worlds."""

from heldorder.checks import check_moves, check_points
from heldorder.errors import MOST_POINTS, MOST_TOLD, BadText
from heldorder.moves import cycles, join_cycles

MOVE_WORD = "move "


def format_move(move):
    """The written form of the move: its cycles, or `()`."""
    rows = cycles(move)
    return "".join([written_row(row) for row in rows]) if rows else "()"


def parse_move(points, text, *, loose=False):
    """The move that the text means, by strict or by loose reading."""
    check_points(points)
    move = _read_loose(points, text) if loose else _read_strict(points, text)
    if move is None:
        raise BadText(1)
    return move


def format_world(points, moves):
    """The written form of the world: a line with its points, then a line for each told move."""
    check_points(points)
    check_moves(points, moves, "told", MOST_TOLD)
    lines = [f"points {points}"] + [MOVE_WORD + format_move(move) for move in moves]
    return "".join([line + "\n" for line in lines])


def parse_world(text):
    """The number of points and the list of told moves that the text means."""
    # The last piece stands behind the last line feed: it is no whole line, and good only if it is empty.
    *lines, rest = text.split("\n")
    points = _read_points(lines[0]) if lines else None
    if points is None:
        raise BadText(1)
    moves = []
    for index, line in enumerate(lines[1:]):
        move = _read_move_line(points, line)
        if index >= MOST_TOLD or move is None:
            raise BadText(index + 2)
        moves.append(move)
    if rest:
        raise BadText(len(lines) + 1)
    return points, moves


def written_row(row):
    """The written form of the row: its points between brackets, with one space between two."""
    return "(" + " ".join([str(point) for point in row]) + ")"


def _read_strict(points, text):
    move = _read_loose(points, text)
    # Loose reading accepts each written form and gives its move back.
    return move if move is not None and format_move(move) == text else None


def _read_loose(points, text):
    if not text.startswith("(") or not text.endswith(")"):
        return None
    names = [str(point) for point in range(points)]
    groups = [_words(group) for group in text[1:-1].split(")(")]
    words = [word for group in groups for word in group]
    if any([word not in names for word in words]) or len(set(words)) < len(words):
        return None
    return join_cycles(points, [[int(word) for word in group] for group in groups])


def _words(group):
    # Splitting the empty text would give one empty word.
    return group.split(" ") if group else []


def _read_points(line):
    for points in range(MOST_POINTS + 1):
        if line == f"points {points}":
            return points
    return None


def _read_move_line(points, line):
    return _read_strict(points, line[len(MOVE_WORD):]) if line.startswith(MOVE_WORD) else None
