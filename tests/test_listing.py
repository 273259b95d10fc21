"""The full row list, tight rows and their numbers (points 29 and 44)."""

import unittest

from heldorder.errors import BadNumber, TooMany
from heldorder.listing import RowBook, count_full_rows, full_rows, tight_rows
from heldorder.worlds import World
from tests import oracle
from tests.support import NOT_WHOLE, Case, swap

EXAMPLE = World(6, [(1, 2, 3, 0, 5, 4)])
EXAMPLE_ROWS = [
    (0,), (1,), (2,), (3,), (4, 0), (4, 1), (4, 2), (4, 3), (5, 0), (5, 1), (5, 2), (5, 3),
]
PAIRS = World(12, oracle.SIX_SWAPS)
FOUR_HUNDRED = World(12, oracle.FOUR_HUNDRED)
STILL = World(3)
# Twelve points of which each is moved alone with one other: 12 * 10 * 8 * .. tight rows.
PAIR_ROWS = [1, 12, 120, 960, 5760, 23040, 46080]
# Five of these points are moved by the last told move alone, so there are short full rows and a few long ones.
SHORT_AND_LONG = World(12, [
    (1, 0, 2, 3, 5, 4, 7, 6, 9, 8, 11, 10),
    (0, 1, 3, 2, 5, 4, 7, 6, 9, 8, 11, 10),
])


def listed(points, made):
    tight = oracle.tight_rows(points, made)
    return tight, [row for row in tight if oracle.is_full(made, row)]


class FullRows(Case):

    def test_example(self):
        self.same(full_rows(EXAMPLE), EXAMPLE_ROWS)

    def test_corpus(self):
        for name, world, points, _, made in oracle.worlds():
            with self.subTest(name=name):
                tight, full = listed(points, made)
                if len(full) <= 2000:
                    self.same(full_rows(world), full)
                else:
                    self.refused(TooMany("rows", 2000), full_rows, world)
                self.same(count_full_rows(world), len(full))
                self.same(count_full_rows(world, length=None), len(full))
                for length in range(13):
                    self.same(count_full_rows(world, length=length), sum(len(row) == length for row in full))
                    rows = [row for row in tight if len(row) == length]
                    if len(rows) <= 2000:
                        self.same(tight_rows(world, length), rows)
                    else:
                        self.refused(TooMany("rows", 2000), tight_rows, world, length)

    def test_never_empty(self):
        self.same(full_rows(STILL), [()])
        self.same(full_rows(World(0)), [()])
        self.same(count_full_rows(World(0)), 1)
        self.same(count_full_rows(STILL, length=0), 1)
        self.same(count_full_rows(STILL, length=1), 0)

    def test_at_below_and_above_the_limit(self):
        self.same(full_rows(EXAMPLE, limit=12), EXAMPLE_ROWS)
        self.same(full_rows(EXAMPLE, limit=13), EXAMPLE_ROWS)
        self.same(full_rows(EXAMPLE, limit=2000), EXAMPLE_ROWS)
        for limit in (0, 1, 4, 8, 11):
            self.refused(TooMany("rows", limit), full_rows, EXAMPLE, limit=limit)
        self.refused(TooMany("rows", 0), full_rows, STILL, limit=0)
        self.same(full_rows(STILL, limit=1), [()])

    def test_more_than_two_thousand(self):
        self.same(count_full_rows(PAIRS), 46080)
        self.same(count_full_rows(PAIRS, length=6), 46080)
        self.same(count_full_rows(PAIRS, length=5), 0)
        self.same(count_full_rows(PAIRS, length=12), 0)
        self.refused(TooMany("rows", 2000), full_rows, PAIRS)
        self.refused(TooMany("rows", 1999), full_rows, PAIRS, limit=1999)
        self.refused(TooMany("rows", 2000), RowBook, PAIRS)

    def test_four_pairs_and_five(self):
        # 8 * 6 * 4 * 2 rows of four points, and ten times as many of five.
        world = World(8, [swap(8, p, p + 1) for p in (0, 2, 4, 6)])
        rows = [row for row in oracle.tight_rows(8, world.made) if len(row) == 4]
        self.same(len(rows), 384)
        self.same(full_rows(world), rows)
        world = World(10, [swap(10, p, p + 1) for p in (0, 2, 4, 6, 8)])
        self.same(count_full_rows(world), 3840)
        self.refused(TooMany("rows", 2000), full_rows, world)
        self.same(tight_rows(world, 3)[:3], [(0, 2, 4), (0, 2, 5), (0, 2, 6)])

    def test_four_hundred_made_moves(self):
        # Two points of each five, in any order: 6 * 20 * 20 rows.
        self.same(count_full_rows(FOUR_HUNDRED), 2400)
        self.same(count_full_rows(FOUR_HUNDRED, length=4), 2400)
        self.refused(TooMany("rows", 2000), full_rows, FOUR_HUNDRED)
        self.same(len(tight_rows(FOUR_HUNDRED, 3)), 600)

    def test_wrong_limits_and_lengths(self):
        for value in NOT_WHOLE + [-1, 2001, 10 ** 29]:
            with self.subTest(value=value):
                self.refused(BadNumber(value, 0, 2000), full_rows, PAIRS, limit=value)
                self.refused(BadNumber(value, 0, 2000), RowBook, PAIRS, limit=value)
                self.refused(BadNumber(value, 0, 2000), tight_rows, PAIRS, 6, limit=value)
        self.check_number_argument(lambda value: tight_rows(EXAMPLE, value), 0, 12)
        self.refused(BadNumber(13, 0, 12), tight_rows, EXAMPLE, 13, limit=-1)
        for value in [value for value in NOT_WHOLE if value is not None] + [-1, 13, 10 ** 29]:
            with self.subTest(value=value):
                self.refused(BadNumber(value, 0, 12), count_full_rows, EXAMPLE, length=value)

    def test_passed_by_name(self):
        for call in (lambda: count_full_rows(EXAMPLE, 1), lambda: full_rows(EXAMPLE, 20), lambda: RowBook(EXAMPLE, 20)):
            with self.assertRaises(TypeError):
                call()

    def test_new_lists(self):
        full_rows(EXAMPLE).clear()
        tight_rows(EXAMPLE, 1).clear()
        self.same(full_rows(EXAMPLE), EXAMPLE_ROWS)
        self.same(len(tight_rows(EXAMPLE, 1)), 6)


class TightRows(Case):

    def test_full_or_not(self):
        self.same(tight_rows(EXAMPLE, 0), [()])
        self.same(tight_rows(EXAMPLE, 1), [(0,), (1,), (2,), (3,), (4,), (5,)])
        self.same(tight_rows(EXAMPLE, 2), EXAMPLE_ROWS[4:])
        for length in range(3, 13):
            self.same(tight_rows(EXAMPLE, length), [])
        self.same(tight_rows(STILL, 0), [()])
        self.same(tight_rows(STILL, 1), [])

    def test_at_below_and_above_the_limit(self):
        self.same(len(tight_rows(EXAMPLE, 2, limit=8)), 8)
        self.same(len(tight_rows(EXAMPLE, 1, limit=6)), 6)
        self.refused(TooMany("rows", 7), tight_rows, EXAMPLE, 2, limit=7)
        self.refused(TooMany("rows", 5), tight_rows, EXAMPLE, 1, limit=5)
        self.refused(TooMany("rows", 0), tight_rows, EXAMPLE, 0, limit=0)
        self.same(tight_rows(EXAMPLE, 3, limit=0), [])
        self.same(tight_rows(EXAMPLE, 12, limit=0), [])

    def test_rows_of_other_lengths_do_not_count(self):
        for length, many in enumerate(PAIR_ROWS):
            if many <= 2000:
                self.same(len(tight_rows(PAIRS, length)), many)
                self.same(len(tight_rows(PAIRS, length, limit=many)), many)
                self.refused(TooMany("rows", many - 1), tight_rows, PAIRS, length, limit=many - 1)
            else:
                self.refused(TooMany("rows", 2000), tight_rows, PAIRS, length)
        self.same(tight_rows(PAIRS, 7), [])

    def test_short_full_rows_end(self):
        tight, full = listed(12, SHORT_AND_LONG.made)
        self.same(full_rows(SHORT_AND_LONG), full)
        for length in range(4):
            self.same(tight_rows(SHORT_AND_LONG, length), [row for row in tight if len(row) == length])


class Book(Case):

    def test_corpus(self):
        for name, world, points, _, made in oracle.worlds():
            _, full = listed(points, made)
            if len(full) <= 2000:
                with self.subTest(name=name):
                    book = RowBook(world)
                    self.same(len(book), len(full))
                    self.same(list(book), full)
                    self.same(book.lengths, sorted({len(row) for row in full}))
                    for length in range(13):
                        self.same(book.of_length(length), [row for row in full if len(row) == length])

    def test_the_arguments_and_errors_of_full_rows(self):
        self.same(list(RowBook(EXAMPLE, limit=12)), EXAMPLE_ROWS)
        self.refused(TooMany("rows", 11), RowBook, EXAMPLE, limit=11)
        self.refused(TooMany("rows", 0), RowBook, STILL, limit=0)
        self.same(list(RowBook(world=STILL, limit=1)), [()])

    def test_one_iteration_within_another(self):
        book = RowBook(EXAMPLE)
        pairs = [(a, b) for a in book for b in book]
        self.same(pairs, [(a, b) for a in EXAMPLE_ROWS for b in EXAMPLE_ROWS])

    def test_what_lies_in_it(self):
        book = RowBook(EXAMPLE)
        for row in EXAMPLE_ROWS:
            self.same(row in book, True)
            self.same(list(row) in book, True)
        for value in [
            (), [], (4,), [5], (0, 4), [0, 4], (6,), (-1,), (4, 0, 0), (0, 0), None, True, False, 0, 1, "", "0",
            (True,), [True], (False,), [False], (4, True), [4, False], ((0,),), [[0]], ([0],), [(4, 0)], ("0",), (None,),
            "40", (10 ** 29,), [0] * 200000, ((4, 0), (4, 1)), (0, None), {},
        ]:
            with self.subTest(value=repr(value)[:60]):
                self.same(value in book, False)
        self.same(() in RowBook(STILL), True)
        self.same([] in RowBook(STILL), True)
        self.same((0,) in RowBook(STILL), False)

    def test_twelve_points(self):
        book = RowBook(SHORT_AND_LONG)
        self.same((11, 0) in book, True)
        self.same([0, 11] in book, True)
        self.same((11, 10) in book, False)
        self.same((12,) in book, False)

    def test_lengths_and_rows_of_a_length(self):
        book = RowBook(EXAMPLE)
        self.same(book.lengths, [1, 2])
        self.same(book.of_length(1), EXAMPLE_ROWS[:4])
        self.same(book.of_length(length=2), EXAMPLE_ROWS[4:])
        self.same(book.of_length(0), [])
        self.same(book.of_length(12), [])
        self.same(RowBook(STILL).lengths, [0])
        self.same(RowBook(STILL).of_length(0), [()])

    def test_wrong_lengths(self):
        book = RowBook(EXAMPLE)
        self.check_number_argument(book.of_length, 0, 12)
        self.same(len(book), 12)

    def test_new_lists(self):
        book = RowBook(EXAMPLE)
        book.lengths.append(9)
        book.of_length(1).clear()
        self.same(book.lengths, [1, 2])
        self.same(book.of_length(1), EXAMPLE_ROWS[:4])
        self.same(list(book), EXAMPLE_ROWS)


if __name__ == "__main__":
    unittest.main()
