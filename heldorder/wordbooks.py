"""Words over a modulus and their books, in which columns are locked in the place of points."""

from heldorder.checks import check_number, check_row, is_number, is_point
from heldorder.closure import bits_of, closed_bits, has_point, lot_of, steps_above
from heldorder.errors import MOST_POINTS, MOST_ROW, MOST_TOLD, NotAColumn, NotAWord, TooMany, UnlikeSizes
from heldorder.listing import full_rows_of, lengths_of
from heldorder.moves import check_move
from heldorder.worlds import World

LEAST_MODULUS = 2
MOST_MODULUS = 6
MOST_COLUMNS = 6


def is_word(modulus, columns, value):
    """Whether the value is a word with this modulus and this number of columns."""
    _check_modulus(modulus)
    _check_many_columns(columns)
    return _is_word_of(modulus, columns, value)


def add_words(modulus, first, second):
    """The sum of the two words, column by column."""
    _check_modulus(modulus)
    _check_word(modulus, first, 0)
    _check_word(modulus, second, 1)
    if len(first) != len(second):
        raise UnlikeSizes(len(first), len(second))
    return _sum_of(modulus, first, second)


def zero_columns(word):
    """The lot of the columns in which the word is 0."""
    return tuple([column for column, worth in enumerate(word) if worth == 0])


class Book:
    """A modulus, a number of columns and told words, with all words that are sums of these."""

    def __init__(self, modulus, columns, words=()):
        _check_modulus(modulus)
        _check_many_columns(columns)
        if len(words) > MOST_TOLD:
            raise TooMany("told", MOST_TOLD)
        for index, word in enumerate(words):
            if not _is_word_of(modulus, columns, word):
                raise NotAWord(index)
        _check_many_points(modulus * columns)
        self._modulus = modulus
        self._columns = columns
        self._told = list(words)
        self._made = _all_sums(modulus, columns, words)

    @property
    def modulus(self):
        """The modulus of the words."""
        return self._modulus

    @property
    def columns(self):
        """The number of columns of the words."""
        return self._columns

    @property
    def told(self):
        """The told words in order."""
        return list(self._told)

    @property
    def made(self):
        """The made words in ascending order."""
        return list(self._made)

    def __len__(self):
        return len(self._made)

    def __iter__(self):
        return iter(self._made)

    def __contains__(self, value):
        # Without the first test (True, 0) would count as (1, 0).
        return _is_word_of(self._modulus, self._columns, value) and value in self._made


def words_zero_on(book, lot):
    """The made words that are 0 in each column of the lot, ascending."""
    _check_columns(book, lot)
    return [word for word in book if not any([word[column] for column in lot])]


def column_closure(book, lot):
    """The lot of the columns in which every holder of the lot is 0."""
    _check_columns(book, lot)
    return lot_of(closed_bits(_column_marks(book), bits_of(lot)))


def loose_columns(book, row):
    """The indexes at which the column is in the column closure of those in front."""
    _check_columns(book, row)
    marked = _column_marks(book)
    closures = [closed_bits(marked, bits_of(row[:index])) for index in range(len(row))]
    return tuple([index for index, closed in enumerate(closures) if has_point(closed, row[index])])


def column_rows(book):
    """All tight full rows of columns, ascending."""
    return full_rows_of(steps_above(_column_marks(book), 0))


def column_lengths(book):
    """The numbers of columns of the tight full rows of columns, ascending."""
    return lengths_of(steps_above(_column_marks(book), 0))


def word_move(modulus, word):
    """The move of the word."""
    _check_modulus(modulus)
    _check_word(modulus, word, 0)
    _check_many_points(modulus * len(word))
    return _move_of(modulus, word)


def move_word(modulus, move):
    """The word whose move this is, or None."""
    _check_modulus(modulus)
    check_move(move, 0)
    # No other word can have this move: a word is told by where it carries the points of value 0.
    word = tuple([image % modulus for image in move[::modulus]])
    return word if _move_of(modulus, word) == move else None


def book_world(book):
    """The world whose told moves are the moves of the told words."""
    return World(book.modulus * book.columns, [_move_of(book.modulus, word) for word in book.told])


def columns_of_row(book, row):
    """The columns of the points of a row of the book world."""
    check_row(book.modulus * book.columns, row)
    return tuple([point // book.modulus for point in row])


def points_of_columns(book, row, *, worth=0):
    """The points with this value of the columns of the row."""
    _check_columns(book, row)
    check_number(worth, 0, book.modulus - 1)
    return tuple([column * book.modulus + worth for column in row])


def _check_modulus(value):
    check_number(value, LEAST_MODULUS, MOST_MODULUS)


def _check_many_columns(value):
    check_number(value, 0, MOST_COLUMNS)


def _check_many_points(points):
    if points > MOST_POINTS:
        raise TooMany("points", MOST_POINTS)


def _check_word(modulus, value, place):
    """Refuse what is not a word with this modulus, whatever its number of columns."""
    if not isinstance(value, tuple) or not _is_word_of(modulus, min(len(value), MOST_COLUMNS), value):
        raise NotAWord(place)


def _is_word_of(modulus, columns, value):
    # The length comes first: the value may have very many entries.
    if not isinstance(value, tuple) or len(value) != columns:
        return False
    return all([is_number(worth, 0, modulus - 1) for worth in value])


def _check_columns(book, row):
    """Refuse what is not a row, or not a lot, of columns of the book."""
    if len(row) > MOST_ROW:
        raise TooMany("row", MOST_ROW)
    for value in row:
        if not is_point(book.columns, value):
            raise NotAColumn(value)


def _sum_of(modulus, first, second):
    return tuple([(worth + second[column]) % modulus for column, worth in enumerate(first)])


def _all_sums(modulus, columns, words):
    """All sums of the words, ascending."""
    zeros = (0,) * columns
    found = {zeros: True}
    waiting = [zeros]
    while waiting:
        last = waiting.pop()
        for word in words:
            longer = _sum_of(modulus, last, word)
            if longer not in found:
                found[longer] = True
                waiting.append(longer)
    return sorted(found)


def _column_marks(book):
    """The lots of columns in which made words are 0, as ascending numbers; the last one is of the word of zeros."""
    return sorted({bits_of(zero_columns(word)) for word in book})


def _move_of(modulus, word):
    return tuple([
        column * modulus + (worth + add) % modulus for column, add in enumerate(word) for worth in range(modulus)
    ])
