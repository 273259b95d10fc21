"""Lengths of tight full rows, and the path from one such row to another on which each length between is met."""

from heldorder.checks import check_number, check_row
from heldorder.closure import bits_of, mark_bits, steps_above
from heldorder.errors import MOST_POINTS, MOST_ROW, NoSuchLength
from heldorder.listing import least_rows, lengths_of, whole_lot, world_steps
from heldorder.neighbours import check_entries, check_tight_full
from heldorder.rows import is_tight_full_row, loose_indexes, tight_part

MOST_PATH_ROW = 12


def tight_count(world, row):
    """The number of indexes at which the row is tight."""
    return len(row) - len(loose_indexes(world, row))


def swapped(row, index):
    """The row with the entries at the index and behind it exchanged."""
    check_entries(row, MOST_ROW)
    check_number(index, 0, len(row) - 2)
    return exchanged(row, index)


def exchanged(row, index):
    """The row of swapped, nothing checked."""
    return tuple(row[:index]) + (row[index + 1], row[index]) + tuple(row[index + 2:])


def swap_path(first, second):
    """The indexes of the exchanges that lead a second row of this length in front of a first one."""
    check_number(first, 0, MOST_ROW)
    check_number(second, 0, MOST_ROW)
    return [index for k in range(second) for index in range(first + k - 1, k - 1, -1)]


def path_words(first, second):
    """The first row followed by the second one, and the row after each exchange of their swap path."""
    check_entries(first, MOST_PATH_ROW)
    check_entries(second, MOST_PATH_ROW)
    words = [tuple(first) + tuple(second)]
    for index in swap_path(len(first), len(second)):
        words.append(exchanged(words[-1], index))
    return words


def count_path(world, first, second):
    """The tight counts of the words between two tight full rows."""
    _check_rows(world, first, second)
    return [tight_count(world, word) for word in path_words(first, second)]


def rows_between(world, first, second):
    """A tight full row for each number from the lesser to the greater of the lengths of two such rows."""
    counts = count_path(world, first, second)
    words = path_words(first, second)
    least, greatest = sorted([len(first), len(second)])
    return [tight_part(world, words[counts.index(length)]) for length in range(least, greatest + 1)]


def row_between(world, first, second, length):
    """The one of the rows between that has this length."""
    check_row(world.points, first)
    check_row(world.points, second)
    check_number(length, 0, MOST_POINTS)
    rows = rows_between(world, first, second)
    least, greatest = len(rows[0]), len(rows[-1])
    if not least <= length <= greatest:
        raise NoSuchLength(length, least, greatest)
    return rows[length - least]


def lengths(world):
    """The lengths of the world, ascending."""
    return lengths_of(world_steps(world))


def lengths_above(world, lot):
    """The lengths of the holder world of the lot, ascending."""
    check_row(world.points, lot)
    return lengths_of(steps_above(mark_bits(world), bits_of(lot)))


def one_length(world):
    """Whether the world has just one length."""
    return len(lengths(world)) == 1


def row_of_length(world, length):
    """The least tight full row of this length."""
    check_number(length, 0, MOST_POINTS)
    steps = world_steps(world)
    whole = whole_lot(steps)
    found = {len(level[whole]): level[whole] for level in least_rows(steps) if whole in level}
    if length not in found:
        raise NoSuchLength(length, min(found), max(found))
    return found[length]


def is_stretch(world, rows):
    """Whether the value is a list of tight full rows, each one point longer than the one in front of it."""
    # A tight row has no point twice, so there are not more lengths than numbers from 0 to that of all points.
    if not isinstance(rows, (list, tuple)) or not 1 <= len(rows) <= world.points + 1:
        return False
    if any([not isinstance(row, tuple) or not is_tight_full_row(world, row) for row in rows]):
        return False
    return all([len(row) == len(rows[0]) + index for index, row in enumerate(rows)])


def _check_rows(world, first, second):
    check_row(world.points, first)
    check_row(world.points, second)
    check_tight_full(world, first)
    check_tight_full(world, second)
