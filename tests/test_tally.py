"""Tallies, orbits of rows, shapes, exact counts (points 67 to 69)."""

import collections
import itertools
import random
import unittest

from heldorder.errors import BadNumber, NotACount, NotAMove, TooMany
from heldorder.makers import all_moves, ring, side_by_side
from heldorder.orbits import orbits
from heldorder.tally import (
    Tally, count_orbits, count_row_orbits, exact_counts, row_orbit_heads, shape, shapes, world_tally,
)
from heldorder.worlds import World
from tests import oracle
from tests.support import ANY_VALUES, BIG, NOT_WHOLE, Case, still

EXAMPLE = World(6, [(1, 2, 3, 0, 5, 4)])
NOTHING = World(0)
MOST = 10 ** 30 - 1


def held(move):
    return sum(image == p for p, image in enumerate(move))


def reckoned_heads(known, length):
    """The least row of each row orbit, all rows put together that a made move carries to each other."""
    left = set(itertools.product(range(known.points), repeat=length))
    heads = []
    while left:
        heads.append(min(left))
        left -= {tuple(move[p] for p in heads[-1]) for move in known.made}
    return heads


def reckoned_shape(move):
    sizes, left = [], set(range(len(move)))
    while left:
        point, size = min(left), 0
        while point in left:
            left.remove(point)
            point, size = move[point], size + 1
        sizes.append(size)
    return tuple(sorted(sizes, reverse=True))


class Tallies(Case):

    def test_one_and_25_entries(self):
        for counts in ([0], [7], [1, 2, 3], list(range(25)), [0] * 25, [MOST] * 25, [BIG, 0, BIG]):
            for kind in (list, tuple):
                tally = Tally(kind(counts))
                self.same(tally.counts, tuple(counts))
                self.same((tally.points, tally.total), (len(counts) - 1, sum(counts)))
        self.same(Tally(counts=[1, 0]).counts, (1, 0))

    def test_0_and_26_entries(self):
        for kind in (list, tuple):
            self.refused(BadNumber(0, 1, 25), Tally, kind([]))
            for many in (26, 27, 100):
                self.refused(BadNumber(many, 1, 25), Tally, kind([0] * many))
                self.refused(BadNumber(many, 1, 25), Tally, kind([None] * many))

    def test_entries_that_are_no_counts(self):
        for kind in (list, tuple):
            for value in NOT_WHOLE + [-1, -2, -BIG]:
                for index in (0, 1, 24):
                    with self.subTest(value=value, index=index):
                        self.refused(NotACount(index), Tally, kind([3] * index + [value] + [0] * (24 - index)))
                        self.refused(NotACount(index), Tally, kind([3] * index + [value] + [None] * (24 - index)))
            for index in range(25):
                self.refused(NotACount(index), Tally, kind([0] * index + [-1]))

    def test_lists_that_are_changed_afterwards(self):
        counts = [1, 2, 3]
        tally = Tally(counts)
        counts[0] = 9
        counts.append(4)
        self.same((tally.counts, tally.points, tally.total), ((1, 2, 3), 2, 6))
        self.same(tally.at(0), 1)

    def test_at(self):
        for many in (1, 2, 13, 25):
            tally = Tally([k + 5 for k in range(many)])
            for k in range(25):
                self.same(tally.at(k), k + 5 if k < many else 0)
            self.check_number_argument(tally.at, 0, 24)
        self.same(Tally([7]).at(k=0), 7)

    def drawn(self, chance, most):
        return [chance.choice([0, 1, 2, chance.randrange(100), MOST]) for _ in range(chance.randrange(1, most + 1))]

    def test_products_and_sums(self):
        chance = random.Random(67)
        for _ in range(150):
            a, b = self.drawn(chance, 13), self.drawn(chance, 13)
            expected = [
                sum(a[i] * b[k - i] for i in range(len(a)) if 0 <= k - i < len(b)) for k in range(len(a) + len(b) - 1)
            ]
            product = Tally(a) * Tally(b)
            self.assertIs(type(product), Tally)
            self.same(product.counts, tuple(expected))
            self.same((product.points, product.total), (len(a) + len(b) - 2, sum(a) * sum(b)))
            self.same((Tally(b) * Tally(a)).counts, tuple(expected))
            a, b = self.drawn(chance, 25), self.drawn(chance, 25)
            total = Tally(a) + Tally(b)
            self.assertIs(type(total), Tally)
            self.same(total.counts, tuple(x + y for x, y in itertools.zip_longest(a, b, fillvalue=0)))
            self.same((Tally(b) + Tally(a)).counts, total.counts)

    def test_products_at_24_and_25_points(self):
        for first in range(25):
            one = Tally([1] * (first + 1))
            other = Tally([1] * (25 - first))
            self.same((one * other).points, 24)
            for more in range(25 - first, 25):
                self.refused(TooMany("points", 24), lambda: one * Tally([0] * (more + 1)))
        self.same((Tally([2] * 25) * Tally([3])).counts, (6,) * 25)
        self.same((Tally([3]) * Tally([2])).counts, (6,))
        self.refused(TooMany("points", 24), lambda: Tally([0] * 25) * Tally([0] * 25))

    def test_sums_of_unlike_lengths(self):
        self.same((Tally([1]) + Tally([1] * 25)).counts, (2,) + (1,) * 24)
        self.same((Tally([1, 2, 3]) + Tally([10])).counts, (11, 2, 3))
        self.same((Tally([10]) + Tally([1, 2, 3])).counts, (11, 2, 3))
        self.same((Tally([1] * 25) + Tally([2] * 25)).counts, (3,) * 25)

    def test_entries_of_results_have_any_size(self):
        tally = Tally([MOST])
        for _ in range(40):
            tally = tally * Tally([MOST])
        self.same(tally.counts, (MOST ** 41,))
        self.same((tally + tally).counts, (2 * MOST ** 41,))
        self.same((tally * Tally([0, 1])).at(1), MOST ** 41)

    def test_operands_stay(self):
        one, other = Tally([1, 2]), Tally([3, 4, 5])
        for call in (lambda: one * other, lambda: one + other, lambda: one == other):
            call()
            self.same((one.counts, other.counts), ((1, 2), (3, 4, 5)))
        self.same(((one * other).counts, (one + other).counts), ((3, 10, 13, 10), (4, 6, 5)))

    def test_other_operands(self):
        for call in (lambda: Tally([1]) + 1, lambda: Tally([1]) * 2, lambda: Tally([1]) + [1], lambda: Tally([1]) * (1,)):
            with self.assertRaises(TypeError):
                call()

    def test_equal(self):
        one = Tally([1, 0, 2])
        for other in (Tally((1, 0, 2)), Tally([1, 0, 1]) + Tally([0, 0, 1]), Tally([1]) * Tally([1, 0, 2]), one):
            self.same((one == other, one != other, other == one, other != one), (True, False, True, False))
        for counts in ([1, 0], [1, 0, 2, 0], [1, 0, 3], [2, 0, 1], [0, 1, 0, 2], [0]):
            other = Tally(counts)
            self.same((one == other, one != other, other == one), (False, True, False))
        for value in ANY_VALUES + [(1, 0, 2), [1, 0, 2], EXAMPLE, World(2), "Tally", 3]:
            self.same((one == value, one != value), (False, True))
            self.same((value == one, value != one), (False, True))
        self.same((EXAMPLE == one, EXAMPLE != one), (False, True))


class OfMoves(Case):

    def test_some(self):
        self.same(Tally.of_moves(3, []).counts, (0, 0, 0, 0))
        self.same(Tally.of_moves(0, []).counts, (0,))
        self.same(Tally.of_moves(0, [()] * 3).counts, (3,))
        self.same(Tally.of_moves(3, [(0, 1, 2), (0, 1, 2), (1, 0, 2), (1, 2, 0)]).counts, (1, 1, 0, 2))
        self.same(Tally.of_moves(points=12, moves=(still(12),)).counts, (0,) * 12 + (1,))
        self.same(Tally.of_moves(2, [(1, 0)] * 400).total, 400)
        self.assertIs(type(Tally.of_moves(2, [])), Tally)
        self.same(Tally([5]).of_moves(1, [(0,)]).counts, (0, 1))

    def test_corpus(self):
        for known in oracle.known():
            moves = (known.made + known.told)[:400]
            expected = tuple(sum(held(move) == k for move in moves) for k in range(known.points + 1))
            for kind in (list, tuple):
                self.same(Tally.of_moves(known.points, kind(moves)).counts, expected)

    def test_wrong_arguments(self):
        self.check_number_argument(lambda points: Tally.of_moves(points, []), 0, 12)
        self.check_move_list_argument(lambda moves: Tally.of_moves(3, moves), 3, "list", 400)
        self.check_move_list_argument(lambda moves: Tally.of_moves(0, moves), 0, "list", 400)
        self.refused(BadNumber(13, 0, 12), Tally.of_moves, 13, [None] * 401)
        self.refused(TooMany("list", 400), Tally.of_moves, 2, [None] * 401)
        self.refused(NotAMove(1), Tally.of_moves, 2, [(1, 0), (0,), None])

    def test_the_list_stays(self):
        moves = [(1, 0), (0, 1)]
        tally = Tally.of_moves(2, moves)
        moves.clear()
        self.same(tally.counts, (1, 0, 1))


class Worlds(Case):

    def test_corpus(self):
        for known in oracle.known():
            tally = world_tally(known.world)
            with self.subTest(name=known.name):
                self.same(tally.counts, tuple(sum(held(move) == k for move in known.made) for k in range(known.points + 1)))
                self.same((tally.points, tally.total), (known.points, len(known.made)))
                self.same(tally.at(known.points), 1)
                self.same(count_orbits(known.world), len(orbits(known.world)))
                self.same(count_orbits(known.world), len(reckoned_heads(known, 1)))

    def test_worlds_side_by_side(self):
        chance = random.Random(68)
        worlds = [known for known in oracle.known() if known.points <= 8 and len(known.made) <= 20]
        met = 0
        for _ in range(120):
            one, other = chance.choice(worlds), chance.choice(worlds)
            if one.points + other.points <= 12 and len(one.told) + len(other.told) <= 8:
                met += 1
                both = world_tally(side_by_side(one.world, other.world))
                self.same(both.counts, (world_tally(one.world) * world_tally(other.world)).counts)
                self.assertTrue(both == world_tally(one.world) * world_tally(other.world))
        self.assertGreater(met, 30)

    def test_some(self):
        self.same(world_tally(NOTHING).counts, (1,))
        self.same(world_tally(World(3)).counts, (0, 0, 0, 1))
        self.same(world_tally(EXAMPLE).counts, (2, 0, 1, 0, 0, 0, 1))
        self.same(world_tally(all_moves(4)).counts, (9, 8, 6, 0, 1))
        self.same([count_orbits(world) for world in (NOTHING, World(12), EXAMPLE, ring(12))], [0, 12, 2, 1])


class RowOrbits(Case):

    def test_corpus(self):
        for known in oracle.known():
            for length in range(7):
                if known.points ** length <= 2000:
                    heads = reckoned_heads(known, length)
                    with self.subTest(name=known.name, length=length):
                        self.same(row_orbit_heads(known.world, length), heads)
                        self.same(count_row_orbits(known.world, length), len(heads))

    def test_counts_have_no_limit(self):
        self.same([count_row_orbits(World(12), length) for length in range(7)], [12 ** length for length in range(7)])
        self.same([count_row_orbits(NOTHING, length) for length in range(7)], [1, 0, 0, 0, 0, 0, 0])
        self.same([count_row_orbits(all_moves(5), length) for length in range(7)], [1, 1, 2, 5, 15, 52, 202])
        self.same(count_row_orbits(ring(12), 6), 12 ** 5)
        for known in oracle.known():
            total = sum(held(move) ** 6 for move in known.made)
            self.same(count_row_orbits(known.world, 6), total // len(known.made))
            self.same(total % len(known.made), 0)

    def test_some(self):
        self.same(row_orbit_heads(EXAMPLE, 0), [()])
        self.same(row_orbit_heads(NOTHING, 0), [()])
        self.same([row_orbit_heads(NOTHING, length) for length in range(1, 7)], [[]] * 6)
        self.same(row_orbit_heads(EXAMPLE, 1), [(0,), (4,)])
        self.same(row_orbit_heads(all_moves(3), 2), [(0, 0), (0, 1)])
        self.same(row_orbit_heads(World(2), 2), [(0, 0), (0, 1), (1, 0), (1, 1)])
        self.same(row_orbit_heads(ring(2), 2), [(0, 0), (0, 1)])
        # A row orbit is met at its least row even if that is not in ascending order.
        self.same(row_orbit_heads(ring(3), 2), [(0, 0), (0, 1), (0, 2)])

    def test_limit(self):
        for points, length in ((3, 2), (2, 6), (6, 4), (12, 3), (1, 6), (5, 0), (0, 0), (0, 3)):
            world, many = World(points), points ** length
            if many <= 2000:
                for limit in (many, many + 1, 2000):
                    self.same(len(row_orbit_heads(world, length, limit=min(limit, 2000))), many)
                if many:
                    self.refused(TooMany("rows", many - 1), row_orbit_heads, world, length, limit=many - 1)
                    self.refused(TooMany("rows", 0), row_orbit_heads, world, length, limit=0)
        # The number of all rows counts, not that of the heads.
        self.refused(TooMany("rows", 35), row_orbit_heads, EXAMPLE, 2, limit=35)
        self.same(len(row_orbit_heads(EXAMPLE, 2, limit=36)), count_row_orbits(EXAMPLE, 2))
        self.same(row_orbit_heads(NOTHING, 1, limit=0), [])
        self.refused(TooMany("rows", 0), row_orbit_heads, NOTHING, 0, limit=0)

    def test_limit_by_default(self):
        self.same(len(row_orbit_heads(World(12), 3)), 1728)
        self.refused(TooMany("rows", 2000), row_orbit_heads, World(12), 4)
        self.refused(TooMany("rows", 2000), row_orbit_heads, ring(12), 6)
        # 6 ** 4 is 1296, 7 ** 4 is 2401.
        self.same(len(row_orbit_heads(World(6), 4)), 1296)
        self.refused(TooMany("rows", 2000), row_orbit_heads, World(7), 4)
        self.refused(TooMany("rows", 1999), row_orbit_heads, World(7), 4, limit=1999)

    def test_wrong_numbers(self):
        self.check_number_argument(lambda length: count_row_orbits(EXAMPLE, length), 0, 6)
        self.check_number_argument(lambda length: row_orbit_heads(World(2), length), 0, 6)
        self.check_number_argument(lambda limit: row_orbit_heads(NOTHING, 1, limit=limit), 0, 2000)
        self.refused(BadNumber(7, 0, 6), row_orbit_heads, EXAMPLE, 7, limit=2001)
        self.refused(BadNumber(2001, 0, 2000), row_orbit_heads, World(12), 6, limit=2001)
        with self.assertRaises(TypeError):
            row_orbit_heads(EXAMPLE, 1, 5)


class Shapes(Case):

    def test_corpus(self):
        for known in oracle.known():
            for move in known.made[:40]:
                self.same(shape(move), reckoned_shape(move))
            counted = collections.Counter(reckoned_shape(move) for move in known.made)
            with self.subTest(name=known.name):
                self.same(shapes(known.world), sorted(counted.items()))

    def test_some(self):
        self.same(shape(()), ())
        self.same(shape((0,)), (1,))
        self.same(shape((1, 2, 3, 0, 5, 4)), (4, 2))
        self.same(shape((1, 0, 3, 4, 2, 5, 6)), (3, 2, 1, 1))
        self.same(shape(still(12)), (1,) * 12)
        self.same(shape(oracle.ring(12)), (12,))
        self.same(shapes(NOTHING), [((), 1)])
        self.same(shapes(World(2)), [((1, 1), 1)])
        self.same(shapes(EXAMPLE), [((1, 1, 1, 1, 1, 1), 1), ((2, 2, 1, 1), 1), ((4, 2), 2)])
        self.same(shapes(all_moves(4)), [
            ((1, 1, 1, 1), 1), ((2, 1, 1), 6), ((2, 2), 3), ((3, 1), 8), ((4,), 6),
        ])

    def test_wrong_moves(self):
        self.check_move_argument(shape, 0)


class ExactCounts(Case):

    def test_corpus(self):
        for known in oracle.known():
            marks = [tuple(p for p in range(known.points) if move[p] == p) for move in known.made]
            counts = exact_counts(known.world)
            with self.subTest(name=known.name):
                self.same(counts, [(lot, marks.count(lot)) for lot in known.closed])
                for lot, _ in counts:
                    above = sum(many for other, many in counts if set(lot) <= set(other))
                    self.same(above, len(oracle.holders(known.made, lot)))

    def test_some(self):
        self.same(exact_counts(NOTHING), [((), 1)])
        self.same(exact_counts(World(2)), [((0, 1), 1)])
        self.same(exact_counts(EXAMPLE), [((), 2), ((4, 5), 1), ((0, 1, 2, 3, 4, 5), 1)])
        self.same(exact_counts(World(3, [(1, 0, 2)])), [((2,), 1), ((0, 1, 2), 1)])

    def test_a_number_may_be_0(self):
        found = [known.name for known in oracle.known() if any(not many for _, many in exact_counts(known.world))]
        self.assertTrue(found)
        world = World(6, [(1, 0, 3, 2, 4, 5), (1, 0, 2, 3, 5, 4)])
        self.same(exact_counts(world), [
            ((), 0), ((0, 1), 1), ((2, 3), 1), ((4, 5), 1), ((0, 1, 2, 3, 4, 5), 1),
        ])

    def test_new_lists(self):
        for call in (shapes, exact_counts, lambda world: row_orbit_heads(world, 1)):
            before = call(EXAMPLE)
            call(EXAMPLE).clear()
            self.same(call(EXAMPLE), before)


if __name__ == "__main__":
    unittest.main()
