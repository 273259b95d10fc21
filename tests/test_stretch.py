"""Tight counts, swap paths, rows between two rows, and lengths (points 41 to 45)."""

import random
import unittest

from heldorder.errors import BadNumber, NoSuchLength, NotAPoint, NotFull, NotTight, TooMany
from heldorder.holding import holder_world
from heldorder.stretch import (
    count_path, is_stretch, lengths, lengths_above, one_length, path_words, row_between, row_of_length, rows_between,
    swap_path, swapped, tight_count,
)
from heldorder.worlds import World
from tests import oracle
from tests.support import BIG, NOT_WHOLE, Case, allow

EXAMPLE = World(6, [(1, 2, 3, 0, 5, 4)])
WIDE = World(*oracle.GIVEN["one to three"])
STILL = World(3)
NOTHING = World(0)
PAIRS = World(12, oracle.SIX_SWAPS)
FOUR_HUNDRED = World(12, oracle.FOUR_HUNDRED)


def exchange(row, index):
    row = list(row)
    row[index], row[index + 1] = row[index + 1], row[index]
    return tuple(row)


def some_pairs(known, many):
    """Pairs of tight full rows, drawn."""
    chance = random.Random(known.points)
    return [(chance.choice(known.full), chance.choice(known.full)) for _ in range(many)]


class Counts(Case):

    def test_tight_count_corpus(self):
        for seed, known in enumerate(oracle.known()):
            for row in oracle.rows_to_try(known.points, seed, 20):
                with self.subTest(name=known.name, row=row):
                    many = len(row) - len(oracle.loose(known.made, row))
                    self.same(tight_count(known.world, row), many)
                    self.same(tight_count(known.world, list(row)), many)
                    for index in range(0, len(row) - 1, 5):
                        self.assertLessEqual(abs(tight_count(known.world, swapped(row, index)) - many), 1)

    def test_some(self):
        self.same(tight_count(EXAMPLE, ()), 0)
        self.same(tight_count(EXAMPLE, [4, 5, 0, 1]), 2)
        self.same(tight_count(EXAMPLE, [4] * 24), 1)
        self.same(tight_count(NOTHING, []), 0)

    def test_wrong_rows(self):
        for world in (EXAMPLE, FOUR_HUNDRED):
            self.check_row_argument(lambda row: tight_count(world, row), world.points)
        self.refused(NotAPoint(0), tight_count, NOTHING, [0])


class Swaps(Case):

    def test_swapped(self):
        chance = random.Random(8)
        for length in range(2, 25):
            row = [chance.randrange(-3, 30) for _ in range(length)]
            for index in range(length - 1):
                for given in (row, tuple(row)):
                    self.same(swapped(given, index), exchange(row, index))
        self.same(swapped([7, 10 ** 29], 0), (10 ** 29, 7))
        self.same(swapped((-1, -1, 3), 1), (-1, 3, -1))

    def test_swapped_bounds(self):
        for length in (2, 3, 24):
            self.check_number_argument(lambda index: swapped([5] * length, index), 0, length - 2)
        for length, high in ((0, -2), (1, -1)):
            for kind in (list, tuple):
                for value in NOT_WHOLE + [-2, -1, 0, 1, BIG]:
                    self.refused(BadNumber(value, 0, high), swapped, kind([5] * length), value)
        for kind in (list, tuple):
            self.refused(TooMany("row", 24), swapped, kind([5] * 25), 0)
            self.refused(TooMany("row", 24), swapped, kind([5] * 25), None)

    def test_swap_path(self):
        for first in range(25):
            for second in range(25):
                path = swap_path(first, second)
                self.assertIs(type(path), list)
                self.assertEqual(len(path), first * second)
                row = [("first", index) for index in range(first)] + [("second", index) for index in range(second)]
                after = row[first:] + row[:first]
                for index in path:
                    row[index], row[index + 1] = row[index + 1], row[index]
                self.assertEqual(row, after)
                expected = []
                for k in range(second):
                    index = first + k - 1
                    while index >= k:
                        expected.append(index)
                        index -= 1
                self.same(path, expected)
        self.same(swap_path(2, 3), [1, 0, 2, 1, 3, 2])
        self.same(swap_path(1, 1), [0])
        self.same(swap_path(0, 24), [])
        self.same(swap_path(24, 0), [])
        self.same(swap_path(24, 1), list(range(23, -1, -1)))
        self.same(swap_path(1, 24), list(range(24)))

    def test_swap_path_bounds(self):
        self.check_number_argument(lambda first: swap_path(first, 2), 0, 24)
        self.check_number_argument(lambda second: swap_path(2, second), 0, 24)
        self.refused(BadNumber(25, 0, 24), swap_path, 25, -1)

    def test_path_words(self):
        chance = random.Random(9)
        for first in range(13):
            for second in (0, 1, 2, 5, 12):
                one = tuple(chance.randrange(-2, 20) for _ in range(first))
                other = tuple(chance.randrange(-2, 20) for _ in range(second))
                expected = [one + other]
                for index in swap_path(first, second):
                    expected.append(exchange(expected[-1], index))
                self.same(path_words(one, list(other)), expected)
                self.same(path_words(list(one), other), expected)
                self.assertEqual(len(expected), first * second + 1)
                self.same(expected[-1], other + one)

    def test_path_words_some(self):
        self.same(path_words((), []), [()])
        self.same(path_words([3, 3], [3]), [(3, 3, 3)] * 3)
        self.same(path_words((4, 0), (1,)), [(4, 0, 1), (4, 1, 0), (1, 4, 0)])
        self.same(path_words((1,), (4, 0)), [(1, 4, 0), (4, 1, 0), (4, 0, 1)])

    def test_path_words_limits(self):
        for kind in (list, tuple):
            self.same(len(path_words(kind([1] * 12), kind([2] * 12))), 145)
            self.refused(TooMany("row", 12), path_words, kind([1] * 13), [])
            self.refused(TooMany("row", 12), path_words, [], kind([1] * 13))
            self.refused(TooMany("row", 12), path_words, [1] * 25, kind([1] * 13))

    def test_what_is_passed_stays(self):
        first, second = [4, 0], [1]
        swapped(first, 0)
        path_words(first, second).clear()
        swap_path(2, 1).clear()
        for call in (count_path, rows_between):
            call(EXAMPLE, first, second).clear()
        row_between(EXAMPLE, first, second, 1)
        self.same((first, second), ([4, 0], [1]))
        self.same(len(path_words(first, second)), 3)
        self.same(swap_path(2, 1), [1, 0])
        self.same(count_path(EXAMPLE, first, second), [2, 2, 1])


class Between(Case):

    def test_corpus(self):
        for known in oracle.known():
            for first, second in some_pairs(known, 20):
                words = path_words(first, second)
                counts = [len(known.tight_part(word)) for word in words]
                least, greatest = sorted((len(first), len(second)))
                rows = [known.tight_part(words[counts.index(k)]) for k in range(least, greatest + 1)]
                with self.subTest(name=known.name, first=first, second=second):
                    self.same(count_path(known.world, first, second), counts)
                    self.same((counts[0], counts[-1]), (len(first), len(second)))
                    self.same(rows_between(known.world, first, second), rows)
                    self.same(rows_between(known.world, list(first), list(second)), rows)
                    self.same([len(row) for row in rows], list(range(least, greatest + 1)))
                    self.same(is_stretch(known.world, rows), True)
                    for word in words:
                        part = known.tight_part(word)
                        self.same((known.is_tight(part), known.is_full(part)), (True, True))
                    for length in range(13):
                        if least <= length <= greatest:
                            self.same(row_between(known.world, first, second, length), rows[length - least])
                        else:
                            self.refused(
                                NoSuchLength(length, least, greatest), row_between, known.world, first, second, length
                            )

    def test_some(self):
        self.same(count_path(EXAMPLE, (4, 0), (1,)), [2, 2, 1])
        self.same(count_path(EXAMPLE, (1,), (4, 0)), [1, 2, 2])
        self.same(rows_between(EXAMPLE, [4, 0], [1]), [(1,), (4, 0)])
        self.same(rows_between(EXAMPLE, (1,), (4, 0)), [(1,), (4, 1)])
        self.same(rows_between(EXAMPLE, [2], (3,)), [(2,)])
        self.same(count_path(STILL, (), []), [0])
        self.same(rows_between(NOTHING, (), []), [()])
        self.same(row_between(EXAMPLE, (1,), (4, 0), 2), (4, 1))
        self.same(row_between(EXAMPLE, (4, 0), (5, 1), 2), (4, 0))

    def test_rows_of_one_to_three_points(self):
        known = oracle.Known("", WIDE, 12, WIDE.told, WIDE.made)
        short = next(row for row in known.full if len(row) == 1)
        for long in [row for row in known.full if len(row) == 3][:20]:
            self.same([len(row) for row in rows_between(WIDE, long, short)], [1, 2, 3])
            self.same(len(row_between(WIDE, short, long, 2)), 2)

    def test_refusals_in_order(self):
        loose, short, whole = (0, 4), (4,), (4, 0)
        for call in (count_path, rows_between, lambda *told: row_between(*told, 12)):
            self.refused(NotTight(1), call, EXAMPLE, loose, (5, 4))
            self.refused(NotTight(1), call, EXAMPLE, (4, 5), (0, 0, 0))
            self.refused(NotFull(0), call, EXAMPLE, short, loose)
            self.refused(NotTight(1), call, EXAMPLE, whole, (4, 4))
            self.refused(NotTight(1), call, EXAMPLE, whole, loose)
            self.refused(NotFull(0), call, EXAMPLE, whole, ())
            self.refused(NotFull(0), call, EXAMPLE, (0,), short)
            self.refused(NotTight(0), call, STILL, (), [1])
            self.refused(NotTight(1), call, EXAMPLE, [0] * 24, whole)
            checked = allow(call, NotTight, NotFull, NoSuchLength)
            self.check_two_row_arguments(lambda first, second: checked(EXAMPLE, first, second), 6)
        self.refused(NoSuchLength(3, 1, 2), row_between, EXAMPLE, whole, (0,), 3)
        self.refused(NoSuchLength(0, 2, 2), row_between, EXAMPLE, whole, (5, 0), 0)
        self.refused(NoSuchLength(1, 2, 2), row_between, EXAMPLE, whole, (5, 0), 1)

    def test_the_length_is_checked_before_what_comes_then(self):
        self.check_number_argument(allow(lambda k: row_between(EXAMPLE, (0,), (4, 0), k), NoSuchLength), 0, 12)
        self.refused(BadNumber(13, 0, 12), row_between, EXAMPLE, (0, 4), (0, 0), 13)
        self.refused(NotAPoint(6), row_between, EXAMPLE, (0, 4), (6,), 13)
        self.refused(NotTight(1), row_between, EXAMPLE, (0, 4), (0, 0), 12)


class Lengths(Case):

    def test_corpus(self):
        for known in oracle.known():
            with self.subTest(name=known.name):
                self.same(lengths(known.world), known.lengths)
                self.same(known.lengths, list(range(known.lengths[0], known.lengths[-1] + 1)))
                self.same(one_length(known.world), len(known.lengths) == 1)
                for length in range(13):
                    rows = [row for row in known.full if len(row) == length]
                    if rows:
                        self.same(row_of_length(known.world, length), min(rows))
                    else:
                        least, greatest = known.lengths[0], known.lengths[-1]
                        self.refused(NoSuchLength(length, least, greatest), row_of_length, known.world, length)

    def test_bounds_for_every_length(self):
        for known in oracle.known():
            for k in lengths(known.world):
                self.assertLessEqual(2 ** k, len(known.made))
                product = 1
                for factor in range(k):
                    product *= known.points - factor
                self.assertLessEqual(len(known.made), product)

    def test_lengths_above_corpus(self):
        for seed, known in enumerate(oracle.known()):
            for lot in known.lots_to_try(12):
                rows = oracle.tight_rows(known.points, oracle.holders(known.made, lot))
                full = {len(row) for row in rows if known.is_full(lot + row)}
                for given in (lot, oracle.muddled(lot, seed)):
                    with self.subTest(name=known.name, lot=given):
                        found = lengths_above(known.world, given)
                        self.same(found, sorted(full))
                        self.same(found, list(range(found[0], found[-1] + 1)))
                        self.same(found, lengths(holder_world(known.world, given)))

    def test_some(self):
        self.same(lengths(EXAMPLE), [1, 2])
        self.same(lengths(WIDE), [1, 2, 3])
        self.same(lengths(PAIRS), [6])
        self.same(lengths(FOUR_HUNDRED), [4])
        self.same(one_length(EXAMPLE), False)
        self.same(one_length(PAIRS), True)
        self.same(lengths_above(EXAMPLE, []), [1, 2])
        self.same(lengths_above(EXAMPLE, (5,)), [1])
        self.same(lengths_above(EXAMPLE, [0] * 24), [0])
        self.same(row_of_length(EXAMPLE, 1), (0,))
        self.same(row_of_length(EXAMPLE, 2), (4, 0))
        self.same(row_of_length(PAIRS, 6), (0, 2, 4, 6, 8, 10))
        self.refused(NoSuchLength(3, 1, 2), row_of_length, EXAMPLE, 3)
        self.refused(NoSuchLength(0, 1, 2), row_of_length, EXAMPLE, 0)

    def test_the_still_world(self):
        for world in (STILL, NOTHING):
            self.same(lengths(world), [0])
            self.same(lengths_above(world, ()), [0])
            self.same(one_length(world), True)
            self.same(row_of_length(world, 0), ())
            self.refused(NoSuchLength(1, 0, 0), row_of_length, world, 1)

    def test_wrong_arguments(self):
        self.check_row_argument(lambda lot: lengths_above(EXAMPLE, lot), 6)
        self.check_row_argument(lambda lot: lengths_above(FOUR_HUNDRED, lot), 12)
        self.check_number_argument(allow(lambda k: row_of_length(EXAMPLE, k), NoSuchLength), 0, 12)

    def test_new_lists(self):
        lengths(EXAMPLE).clear()
        lengths_above(EXAMPLE, ()).clear()
        self.same((lengths(EXAMPLE), lengths_above(EXAMPLE, ())), ([1, 2], [1, 2]))


class Stretches(Case):

    def test_corpus(self):
        for seed, known in enumerate(oracle.known()):
            chance = random.Random(seed)
            for _ in range(20):
                start = chance.choice(known.lengths)
                some = [chance.choice([row for row in known.full if len(row) == k]) for k in known.lengths if k >= start]
                other = chance.choice(known.tight)
                for rows in (
                    some, some[::-1], some[1:], some + [other], some[:1] + [other], [other], some + some[-1:],
                    some[:1] + some[2:],
                ):
                    right = bool(rows) and all(row in known.full for row in rows) and all(
                        len(after) == len(row) + 1 for row, after in zip(rows, rows[1:])
                    )
                    with self.subTest(name=known.name, rows=rows):
                        self.same(is_stretch(known.world, rows), right)
                        self.same(is_stretch(known.world, tuple(rows)), right)

    def test_some(self):
        self.same(is_stretch(EXAMPLE, [(0,), (4, 0)]), True)
        self.same(is_stretch(EXAMPLE, ((3,), (5, 0))), True)
        self.same(is_stretch(EXAMPLE, [(4, 0)]), True)
        for rows in [
            [], (), [(4, 0), (0,)], [(0,), (0, 4)], [(0,), (0, 0)], [(4,), (4, 0)], [(0,), (4, 0), (4, 0, 1)],
            [[0], (4, 0)], [(0,), [4, 0]], [(0,), (4, False)], [(False,)], [(0,), (1,)], [()], [(6,)], [(0,), None],
            [(0,) * 25], [(0,), "40"], (0,), [(0,), (4, 0)] * 7, [((0,),)],
        ]:
            with self.subTest(rows=rows):
                self.same(is_stretch(EXAMPLE, rows), False)
        for world in (STILL, NOTHING):
            self.same(is_stretch(world, [()]), True)
            self.same(is_stretch(world, ((),)), True)
            self.same(is_stretch(world, [(), ()]), False)
            self.same(is_stretch(world, []), False)
            self.same(is_stretch(world, [[]]), False)

    def test_any_value(self):
        for world in (FOUR_HUNDRED, PAIRS):
            self.check_judged_argument(lambda value: is_stretch(world, value))
        self.check_judged_argument(lambda value: is_stretch(EXAMPLE, value), but=[((0,),)])
        for world in (STILL, NOTHING):
            self.check_judged_argument(lambda value: is_stretch(world, value), but=[[()], ((),)])


if __name__ == "__main__":
    unittest.main()
