"""Words, books, rows of columns and the book world (points 54 to 57)."""

import itertools
import random
import unittest

from heldorder.errors import BadNumber, NotAColumn, NotAMove, NotAPoint, NotAWord, TooMany, UnlikeSizes
from heldorder.exchange import exchanges
from heldorder.rows import loose_indexes
from heldorder.stretch import lengths
from heldorder.wordbooks import (
    Book, add_words, book_world, column_closure, column_lengths, column_rows, columns_of_row, is_word, loose_columns,
    move_word, points_of_columns, word_move, words_zero_on, zero_columns,
)
from heldorder.worlds import World
from tests import oracle
from tests.support import ANY_VALUES, BIG, NOT_MOVES, NOT_WHOLE, Case, still

DOC = Book(4, 2, [(1, 2)])
EMPTY = Book(3, 0)
THREE = Book(6, 2, [(1, 2), (3, 0)])
WIDE = Book(2, 6, [(1, 0, 1, 0, 1, 0), (0, 1, 1, 0, 0, 1)])

# No words with any modulus and any number of columns.
NO_WORDS = [
    value for value in ANY_VALUES
    if type(value) is not tuple or len(value) > 6 or any(type(worth) is not int or not 0 <= worth < 6 for worth in value)
] + [(True,), (0, False), (0, 6), (-1,), (0,) * 7, [0], [], (0, None), ("0",), ((0,),), (BIG,), [0, 0]]


def sums(modulus, columns, words):
    """All sums, each told word taken as often as it can make a difference."""
    return sorted({
        tuple(sum(many * word[c] for many, word in zip(times, words)) % modulus for c in range(columns))
        for times in itertools.product(range(modulus), repeat=len(words))
    })


def zero_on(made, lot):
    return [word for word in made if all(word[c] == 0 for c in lot)]


def shut(made, columns, lot):
    return tuple(c for c in range(columns) if all(word[c] == 0 for word in zero_on(made, lot)))


def full_rows(made, columns):
    found, rows = [], [()]
    while rows:
        found += [row for row in rows if len(shut(made, columns, row)) == columns]
        rows = [row + (c,) for row in rows for c in range(columns) if c not in shut(made, columns, row)]
    return sorted(found)


def books():
    """Some books of each modulus and each number of columns that a book may have."""
    chance = random.Random(54)
    for modulus in range(2, 7):
        for columns in range(12 // modulus + 1):
            if columns <= 6:
                for many in (0, 1, 1, 2, 3):
                    words = [tuple(chance.randrange(modulus) for _ in range(columns)) for _ in range(many)]
                    yield modulus, columns, words
    yield 4, 3, [(1, 2, 0), (0, 2, 1)]
    yield 4, 3, [(1, 2, 2)]
    yield 6, 2, [(2, 3)]
    yield 6, 2, [(1, 2), (0, 3)]


class Words(Case):

    def test_is_word(self):
        for modulus in range(2, 7):
            for columns in range(7):
                for length in range(8):
                    for worth in range(-1, 8):
                        value = (0,) * (length - 1) + (worth,) if length else ()
                        right = length == columns and (length == 0 or 0 <= worth < modulus)
                        self.same(is_word(modulus, columns, value), right)
                        self.same(is_word(modulus, columns, list(value)), False)

    def test_is_word_for_any_value(self):
        for modulus in (2, 6):
            for columns in (0, 1, 2, 6):
                for value in NO_WORDS:
                    with self.subTest(value=repr(value)[:60]):
                        self.same(is_word(modulus, columns, value), False)
        self.same(is_word(6, 6, (5, 0, 5, 1, 2, 3)), True)
        self.same(is_word(2, 1, (True,)), False)
        self.same(is_word(2, 2, (False, 1)), False)
        self.same(is_word(2, 0, ()), True)

    def test_is_word_numbers(self):
        self.check_number_argument(lambda modulus: is_word(modulus, 2, None), 2, 6)
        self.check_number_argument(lambda columns: is_word(2, columns, None), 0, 6)
        self.refused(BadNumber(1, 2, 6), is_word, 1, 7, None)

    def test_add_words(self):
        chance = random.Random(1)
        for _ in range(500):
            modulus, columns = chance.randrange(2, 7), chance.randrange(7)
            first = tuple(chance.randrange(modulus) for _ in range(columns))
            second = tuple(chance.randrange(modulus) for _ in range(columns))
            expected = tuple((a + b) % modulus for a, b in zip(first, second))
            self.same(add_words(modulus, first, second), expected)
        self.same(add_words(4, (3, 0), (3, 1)), (2, 1))
        self.same(add_words(2, (), ()), ())
        self.same(add_words(6, (5,) * 6, (1,) * 6), (0,) * 6)

    def test_add_words_refusals_in_order(self):
        self.check_number_argument(lambda modulus: add_words(modulus, (1,), (0,)), 2, 6)
        for value in NO_WORDS:
            with self.subTest(value=repr(value)[:60]):
                self.refused(NotAWord(0), add_words, 6, value, (0, 0))
                self.refused(NotAWord(0), add_words, 6, value, value)
                self.refused(NotAWord(1), add_words, 6, (0, 0), value)
        self.refused(BadNumber(7, 2, 6), add_words, 7, None, None)
        self.refused(NotAWord(0), add_words, 2, (2,), (3,))
        self.refused(NotAWord(1), add_words, 3, (2,), (3, 0))
        self.refused(UnlikeSizes(1, 2), add_words, 3, (2,), (2, 0))
        self.refused(UnlikeSizes(6, 0), add_words, 3, (0,) * 6, ())

    def test_zero_columns(self):
        for word in itertools.product((0, 1, -1, 5), repeat=3):
            self.same(zero_columns(word), tuple(c for c in range(3) if word[c] == 0))
        self.same(zero_columns(()), ())
        self.same(zero_columns((0,) * 6), (0, 1, 2, 3, 4, 5))
        self.same(zero_columns((10 ** 29, 0, -7)), (1,))


class Books(Case):

    def test_corpus(self):
        for modulus, columns, words in books():
            made = sums(modulus, columns, words)
            for kind in (list, tuple):
                book = Book(modulus, columns, kind(words))
                with self.subTest(modulus=modulus, columns=columns, words=words):
                    self.same((book.modulus, book.columns), (modulus, columns))
                    self.same(book.told, words)
                    self.same(book.made, made)
                    self.same(len(book), len(made))
                    self.same(list(book), made)
                    for value in itertools.islice(itertools.product(range(modulus + 1), repeat=columns), 200):
                        self.same(value in book, value in made)
                        self.same(list(value) in book, False)

    def test_some(self):
        self.same(DOC.made, [(0, 0), (1, 2), (2, 0), (3, 2)])
        self.same(Book(modulus=3, columns=2).made, [(0, 0)])
        self.same(Book(3, 2, [(0, 0)] * 8).told, [(0, 0)] * 8)
        self.same(len(Book(2, 6, [tuple(int(c == k) for c in range(6)) for k in range(6)])), 64)
        self.same(len(Book(3, 4, [tuple(int(c == k) for c in range(4)) for k in range(4)])), 81)
        self.same(len(Book(6, 2, [(1, 0), (0, 1)])), 36)

    def test_no_columns(self):
        for modulus in range(2, 7):
            for words in ([], [()], [()] * 8):
                book = Book(modulus, 0, words)
                self.same((book.columns, book.told, book.made, len(book)), (0, words, [()], 1))
                self.same(() in book, True)
                self.same([] in book, False)
                self.same((0,) in book, False)
                self.same(words_zero_on(book, []), [()])
                self.same(column_closure(book, ()), ())
                self.same(loose_columns(book, ()), ())
                self.same(column_rows(book), [()])
                self.same(column_lengths(book), [0])
                self.same(columns_of_row(book, []), ())
                self.same(points_of_columns(book, (), worth=modulus - 1), ())
                self.same(book_world(book) == World(0), True)
                self.same(book_world(book).told, words)
                self.refused(NotAColumn(0), words_zero_on, book, [0])
                self.refused(NotAPoint(0), columns_of_row, book, [0])

    def test_refusals_in_order(self):
        self.check_number_argument(lambda modulus: Book(modulus, 2), 2, 6)
        self.check_number_argument(lambda columns: Book(2, columns), 0, 6)
        self.refused(BadNumber(1, 2, 6), Book, 1, 7, [None] * 9)
        self.refused(BadNumber(7, 0, 6), Book, 6, 7, [None] * 9)
        for kind in (list, tuple):
            self.refused(TooMany("told", 8), Book, 2, 2, kind([(0, 0)] * 9))
            self.refused(TooMany("told", 8), Book, 6, 6, kind([None] * 9))
            self.same(len(Book(2, 2, kind([(1, 1)] * 8))), 2)
            for index in range(8):
                words = kind([(1, 0)] * index + [(2, 0)] + [None] * (7 - index))
                self.refused(NotAWord(index), Book, 2, 2, words)
                self.refused(NotAWord(index), Book, 2, 2, words[:index + 1])
        for value in NO_WORDS + [(), (0,), (0, 0, 0), (0, 2), (2, 2)]:
            with self.subTest(value=repr(value)[:60]):
                self.refused(NotAWord(0), Book, 2, 2, [value])
                self.refused(NotAWord(1), Book, 2, 2, ((1, 1), value))
        # The number of points comes last.
        self.refused(TooMany("points", 12), Book, 3, 5)
        self.refused(TooMany("points", 12), Book, 5, 3, [(4, 4, 4)])
        self.refused(NotAWord(0), Book, 5, 3, [(4, 4, 5)])
        self.refused(TooMany("told", 8), Book, 5, 3, [(4, 4, 4)] * 9)
        for modulus in range(2, 7):
            for columns in range(7):
                if modulus * columns > 12:
                    self.refused(TooMany("points", 12), Book, modulus, columns)
                else:
                    self.same(Book(modulus, columns).made, [(0,) * columns])

    def test_one_iteration_within_another(self):
        self.same([(a, b) for a in DOC for b in DOC], [(a, b) for a in DOC.made for b in DOC.made])

    def test_what_lies_in_it(self):
        for value in NO_WORDS + [(0, 1), (1, 0), (2, 2), (0,), (0, 0, 0), (True, 2), (False, 0), (0, False), [1, 2]]:
            with self.subTest(value=repr(value)[:60]):
                self.same(value in DOC, False)
        for value in [(0, 0), (1, 2), (2, 0), (3, 2)]:
            self.same(value in DOC, True)

    def test_new_lists_and_what_is_passed_stays(self):
        words = [(1, 2)]
        book = Book(4, 2, words)
        words.append((0, 1))
        words[0] = (3, 3)
        self.same((book.told, len(book)), ([(1, 2)], 4))
        book.told.append((0, 1))
        book.made.clear()
        column_rows(book).clear()
        column_lengths(book).clear()
        words_zero_on(book, ()).clear()
        self.same((book.told, book.made), ([(1, 2)], DOC.made))
        self.same((column_rows(book), column_lengths(book)), ([(0,), (1, 0)], [1, 2]))
        lot, row = [1, 0, 1], [7, 0, 7]
        for call in (words_zero_on, column_closure, loose_columns, points_of_columns):
            call(book, lot)
        columns_of_row(book, row)
        self.same((lot, row), ([1, 0, 1], [7, 0, 7]))


class Columns(Case):

    def rows(self, columns, chance):
        rows = [row for length in range(3) for row in itertools.product(range(columns), repeat=length)]
        if columns:
            rows += [tuple(chance.randrange(columns) for _ in range(chance.randrange(3, 25))) for _ in range(10)]
        return rows

    def test_corpus(self):
        chance = random.Random(55)
        for modulus, columns, words in books():
            book, made = Book(modulus, columns, words), sums(modulus, columns, words)
            for row in self.rows(columns, chance):
                loose = tuple(i for i, c in enumerate(row) if c in shut(made, columns, row[:i]))
                for given in (row, list(row)):
                    with self.subTest(modulus=modulus, words=words, row=given):
                        self.same(words_zero_on(book, given), zero_on(made, row))
                        self.same(column_closure(book, given), shut(made, columns, row))
                        self.same(loose_columns(book, given), loose)
            full = full_rows(made, columns)
            with self.subTest(modulus=modulus, columns=columns, words=words):
                self.same(column_rows(book), full)
                self.same(column_lengths(book), sorted({len(row) for row in full}))
                found = column_lengths(book)
                self.same(found, list(range(found[0], found[-1] + 1)))

    def test_book_world_corpus(self):
        chance = random.Random(56)
        for modulus, columns, words in books():
            book = Book(modulus, columns, words)
            world = book_world(book)
            with self.subTest(modulus=modulus, columns=columns, words=words):
                self.same(type(world) is World, True)
                self.same(world.points, modulus * columns)
                self.same(world.told, [word_move(modulus, word) for word in words])
                self.same(world.made, sorted(word_move(modulus, word) for word in book))
                self.same(lengths(world), column_lengths(book))
                if modulus in (2, 3, 5):
                    self.same(exchanges(world), True)
                for _ in range(10 if columns else 0):
                    row = [chance.randrange(modulus * columns) for _ in range(chance.randrange(25))]
                    self.same(loose_indexes(world, row), loose_columns(book, columns_of_row(book, row)))

    def test_some(self):
        self.same(column_rows(DOC), [(0,), (1, 0)])
        self.same(column_lengths(DOC), [1, 2])
        self.same(words_zero_on(DOC, [1, 1]), [(0, 0), (2, 0)])
        self.same(column_closure(DOC, (0,)), (0, 1))
        self.same(column_closure(DOC, [1]), (1,))
        self.same(loose_columns(DOC, (1, 0, 1, 0)), (2, 3))
        self.same(loose_columns(DOC, [0, 1]), (1,))
        self.same(column_rows(Book(2, 3)), [()])
        self.same(column_closure(Book(2, 3), ()), (0, 1, 2))
        self.same(loose_columns(Book(2, 3), [2]), (0,))

    def test_wrong_columns(self):
        for call in (words_zero_on, column_closure, loose_columns, points_of_columns):
            for book in (DOC, WIDE, THREE):
                for kind in (list, tuple):
                    last = book.columns - 1
                    call(book, kind([]))
                    call(book, kind([last] * 24))
                    self.refused(TooMany("row", 24), call, book, kind([last] * 25))
                    self.refused(TooMany("row", 24), call, book, kind([None] * 25))
                    for value in NOT_WHOLE + [-1, book.columns, 12, BIG]:
                        for index in (0, 1, 23):
                            row = [0] * 24
                            row[index] = value
                            self.refused(NotAColumn(value), call, book, kind(row))
                    self.refused(NotAColumn(7), call, book, kind([last, 7, 8]))

    def test_columns_of_row(self):
        for modulus, columns, words in books():
            book = Book(modulus, columns, words)
            row = [p for p in range(modulus * columns)] * 2
            self.same(columns_of_row(book, row), tuple(p // modulus for p in row))
            self.same(columns_of_row(book, tuple(row)), tuple(p // modulus for p in row))
        self.same(columns_of_row(DOC, [7, 0, 7, 3]), (1, 0, 1, 0))
        self.check_row_argument(lambda row: columns_of_row(DOC, row), 8)
        self.check_row_argument(lambda row: columns_of_row(WIDE, row), 12)

    def test_points_of_columns(self):
        for modulus, columns, words in books():
            book = Book(modulus, columns, words)
            row = list(range(columns)) * 2
            self.same(points_of_columns(book, row), tuple(c * modulus for c in row))
            for worth in range(modulus):
                points = points_of_columns(book, tuple(row), worth=worth)
                self.same(points, tuple(c * modulus + worth for c in row))
                self.same(columns_of_row(book, points), tuple(row))
        self.same(points_of_columns(DOC, [1, 0, 1], worth=3), (7, 3, 7))
        for book in (DOC, WIDE, EMPTY):
            self.check_number_argument(lambda worth: points_of_columns(book, [], worth=worth), 0, book.modulus - 1)
        self.refused(NotAColumn(2), points_of_columns, DOC, [2], worth=4)
        self.refused(TooMany("row", 24), points_of_columns, DOC, [2] * 25, worth=4)
        with self.assertRaises(TypeError):
            points_of_columns(DOC, [1], 3)


class Moves(Case):

    def test_there_and_back(self):
        for modulus in range(2, 7):
            for columns in range(min(6, 12 // modulus) + 1):
                for word in itertools.product(range(modulus), repeat=columns):
                    move = [None] * (modulus * columns)
                    for j in range(columns):
                        for v in range(modulus):
                            move[j * modulus + v] = j * modulus + (v + word[j]) % modulus
                    self.same(word_move(modulus, word), tuple(move))
                    self.same(move_word(modulus, tuple(move)), word)

    def test_moves_of_no_word(self):
        for points in range(7):
            for move in itertools.permutations(range(points)):
                for modulus in range(2, 7):
                    words = itertools.product(range(modulus), repeat=points // modulus)
                    right = [word for word in words if points % modulus == 0 and word_move(modulus, word) == move]
                    self.same(move_word(modulus, move), right[0] if right else None)

    def test_some(self):
        self.same(word_move(4, (1, 2)), (1, 2, 3, 0, 6, 7, 4, 5))
        self.same(move_word(4, (1, 2, 3, 0, 6, 7, 4, 5)), (1, 2))
        self.same(move_word(2, (1, 2, 3, 0, 6, 7, 4, 5)), None)
        for modulus in range(2, 7):
            self.same(word_move(modulus, ()), ())
            self.same(move_word(modulus, ()), ())
            self.same(move_word(modulus, (0,)), None)
            self.same(move_word(modulus, still(11)), None)
            self.same(move_word(modulus, oracle.ring(11)), None)
        self.same(move_word(5, still(12)), None)
        self.same(move_word(6, still(12)), (0, 0))
        self.same(move_word(2, (1, 0, 2)), None)
        self.same(move_word(2, (2, 3, 0, 1)), None)
        self.same(move_word(3, (3, 4, 5, 0, 1, 2)), None)

    def test_word_move_refusals_in_order(self):
        self.check_number_argument(lambda modulus: word_move(modulus, (1, 0)), 2, 6)
        for value in NO_WORDS:
            with self.subTest(value=repr(value)[:60]):
                self.refused(NotAWord(0), word_move, 6, value)
        self.refused(BadNumber(1, 2, 6), word_move, 1, None)
        self.refused(NotAWord(0), word_move, 2, (2,))
        self.refused(NotAWord(0), word_move, 2, (0,) * 7)
        self.refused(NotAWord(0), word_move, 3, (0, 0, 0, 0, 3))
        self.refused(TooMany("points", 12), word_move, 3, (0, 0, 0, 0, 2))
        self.refused(TooMany("points", 12), word_move, 6, (5, 5, 5))
        self.same(word_move(2, (0,) * 6), still(12))

    def test_move_word_refusals_in_order(self):
        self.check_number_argument(lambda modulus: move_word(modulus, (1, 0)), 2, 6)
        for value in NOT_MOVES:
            with self.subTest(value=repr(value)[:60]):
                self.refused(NotAMove(0), move_word, 2, value)
        self.refused(BadNumber(0, 2, 6), move_word, 0, None)


if __name__ == "__main__":
    unittest.main()
