"""The makers, worlds side by side, one world within another, renamed worlds (points 58 to 61)."""

import math
import random
import unittest

from heldorder.errors import TooMany
from heldorder.exchange import exchanges
from heldorder.makers import (
    all_moves, cube_corners, cube_sides, polygon, renamed_world, ring, side_by_side, within,
)
from heldorder.moves import renamed
from heldorder.stretch import lengths
from heldorder.worlds import World
from tests import oracle
from tests.support import Case, still

NOTHING = World(0)
ONE = World(1)
TWO = World(2, [(1, 0)])
EXAMPLE = World(6, [(1, 2, 3, 0, 5, 4)])


def swaps(points, *pairs):
    """The move that exchanges the two points of each pair."""
    move = list(range(points))
    for first, second in pairs:
        move[first], move[second] = second, first
    return tuple(move)


def small_worlds(most_points, most_made=400):
    return [known for known in oracle.known() if known.points <= most_points and len(known.made) <= most_made]


def made_by(points, told):
    return oracle.made(points, told)


class Makers(Case):

    def check_world(self, world, points, told, many):
        self.assertIs(type(world), World)
        self.same((world.points, world.told), (points, told))
        self.same(len(world), many)
        self.same(world.made, made_by(points, told))

    def test_ring(self):
        for n in range(1, 13):
            self.check_world(ring(n), n, [tuple((p + 1) % n for p in range(n))], n)
        self.same(ring(1).told, [(0,)])
        self.same(ring(2).told, [(1, 0)])
        self.same(ring(4).told, [(1, 2, 3, 0)])
        self.check_number_argument(ring, 1, 12)

    def test_polygon(self):
        for n in range(1, 13):
            told = [tuple((p + 1) % n for p in range(n)), tuple((n - p) % n for p in range(n))]
            self.check_world(polygon(n), n, told, n if n < 3 else 2 * n)
        self.same(polygon(1).told, [(0,), (0,)])
        self.same(polygon(2).told, [(1, 0), (0, 1)])
        self.same(polygon(5).told, [(1, 2, 3, 4, 0), (0, 4, 3, 2, 1)])
        self.same(polygon(6).told, [(1, 2, 3, 4, 5, 0), (0, 5, 4, 3, 2, 1)])
        self.check_number_argument(polygon, 1, 12)

    def test_all_moves(self):
        for n in range(6):
            self.check_world(all_moves(n), n, [swaps(n, (p, p + 1)) for p in range(n - 1)], math.factorial(n))
        self.same(all_moves(0).told, [])
        self.same(all_moves(1).told, [])
        self.same(all_moves(2).told, [(1, 0)])
        self.same(all_moves(4).told, [(1, 0, 2, 3), (0, 2, 1, 3), (0, 1, 3, 2)])
        self.check_number_argument(all_moves, 0, 5)

    def test_cube_corners(self):
        self.check_world(cube_corners(0), 1, [], 1)
        self.check_world(cube_corners(1), 2, [(1, 0)], 2)
        self.check_world(cube_corners(2), 4, [(1, 0, 3, 2), (0, 2, 1, 3)], 8)
        told = [(1, 0, 3, 2, 5, 4, 7, 6), (0, 2, 1, 3, 4, 6, 5, 7), (0, 1, 4, 5, 2, 3, 6, 7)]
        self.check_world(cube_corners(3), 8, told, 48)
        self.check_number_argument(cube_corners, 0, 3)

    def test_cube_corners_by_their_ends(self):
        for d in range(4):
            corners = [tuple(p // 2 ** a % 2 for a in range(d)) for p in range(2 ** d)]
            told = []
            if d:
                told.append(tuple(corners.index((1 - ends[0],) + ends[1:]) for ends in corners))
            for a in range(d - 1):
                told.append(tuple(
                    corners.index(ends[:a] + (ends[a + 1], ends[a]) + ends[a + 2:]) for ends in corners
                ))
            self.same(cube_corners(d).told, told)

    def test_cube_sides(self):
        self.check_world(cube_sides(0), 0, [], 1)
        self.check_world(cube_sides(1), 2, [(1, 0)], 2)
        self.check_world(cube_sides(2), 4, [(1, 0, 2, 3), (2, 3, 0, 1)], 8)
        self.check_world(cube_sides(3), 6, [(1, 0, 2, 3, 4, 5), (2, 3, 0, 1, 4, 5), (0, 1, 4, 5, 2, 3)], 48)
        told = [swaps(8, (0, 1)), swaps(8, (0, 2), (1, 3)), swaps(8, (2, 4), (3, 5)), swaps(8, (4, 6), (5, 7))]
        self.check_world(cube_sides(4), 8, told, 384)
        self.check_number_argument(cube_sides, 0, 4)

    def test_lengths_of_the_makers(self):
        for n in range(1, 13):
            self.same(lengths(ring(n)), [0] if n == 1 else [1])
        self.same([lengths(polygon(n)) for n in (1, 2, 3, 4, 5, 12)], [[0], [1], [2], [2], [2], [2]])
        self.same([lengths(all_moves(n)) for n in range(6)], [[0], [0], [1], [2], [3], [4]])
        self.same([lengths(cube_corners(d)) for d in range(4)], [[0], [1], [2], [3]])
        self.same([lengths(cube_sides(d)) for d in range(5)], [[0], [1], [2], [3], [4]])

    def test_new_worlds(self):
        for call, value in ((ring, 4), (polygon, 4), (all_moves, 3), (cube_corners, 2), (cube_sides, 2)):
            before = call(value).told
            call(value).told.clear()
            call(value).made.clear()
            self.same(call(value).told, before)
            self.assertTrue(call(value) == call(value))


class SideBySide(Case):

    def test_some(self):
        world = side_by_side(ring(3), TWO)
        self.same((world.points, world.told), (5, [(1, 2, 0, 3, 4), (0, 1, 2, 4, 3)]))
        self.same(len(world), 6)
        world = side_by_side(TWO, ring(3))
        self.same((world.points, world.told), (5, [(1, 0, 2, 3, 4), (0, 1, 3, 4, 2)]))
        world = side_by_side(EXAMPLE, EXAMPLE)
        self.same(world.told, [(1, 2, 3, 0, 5, 4, 6, 7, 8, 9, 10, 11), (0, 1, 2, 3, 4, 5, 7, 8, 9, 6, 11, 10)])
        self.same(lengths(world), [2, 3, 4])

    def test_corpus(self):
        chance = random.Random(59)
        worlds = small_worlds(11, 60)
        for _ in range(150):
            one, other = chance.choice(worlds), chance.choice(worlds)
            many = len(one.made) * len(other.made)
            if one.points + other.points > 12 or many > 400 or len(one.told) + len(other.told) > 8:
                continue
            with self.subTest(first=one.name, second=other.name):
                world = side_by_side(one.world, other.world)
                told = [move + tuple(one.points + p for p in range(other.points)) for move in one.told]
                told += [tuple(range(one.points)) + tuple(one.points + p for p in move) for move in other.told]
                self.same((world.points, world.told), (one.points + other.points, told))
                self.same(world.made, sorted(oracle.beside(first, second) for first in one.made for second in other.made))
                self.same(lengths(world), sorted({a + b for a in one.lengths for b in other.lengths}))
                both = one.first_failing is None and other.first_failing is None
                self.same(exchanges(world), both)

    def test_no_points(self):
        told = World(0, [(), ()])
        self.same(side_by_side(NOTHING, NOTHING).told, [])
        self.same(side_by_side(told, told).told, [(), (), (), ()])
        self.same((side_by_side(told, told).points, len(side_by_side(told, told))), (0, 1))
        self.same(side_by_side(told, TWO).told, [(0, 1), (0, 1), (1, 0)])
        self.same(side_by_side(TWO, told).told, [(1, 0), (0, 1), (0, 1)])
        for known in small_worlds(12):
            for world in (side_by_side(NOTHING, known.world), side_by_side(known.world, NOTHING)):
                self.same((world.points, world.told, world.made), (known.points, known.told, known.made))

    def test_points_told_and_made_just_at_the_limits(self):
        self.same(side_by_side(World(6), World(6)).points, 12)
        self.same(side_by_side(World(12), NOTHING).points, 12)
        self.refused(TooMany("points", 12), side_by_side, World(7), World(6))
        self.refused(TooMany("points", 12), side_by_side, World(12), ONE)
        self.refused(TooMany("points", 12), side_by_side, World(12), World(12))
        four, five = World(2, [(0, 1)] * 4), World(2, [(1, 0)] * 5)
        self.same(len(side_by_side(four, four).told), 8)
        self.refused(TooMany("told", 8), side_by_side, four, five)
        self.refused(TooMany("told", 8), side_by_side, World(0, [()] * 8), World(0, [()]))
        self.same(len(side_by_side(World(0, [()] * 8), NOTHING).told), 8)
        # 20 * 20 is 400, 60 * 7 is 420.
        twenty = World(5, [oracle.FIVE, oracle.DOUBLE])
        self.same(len(side_by_side(twenty, twenty)), 400)
        self.refused(TooMany("made", 400), side_by_side, ring(7), World(5, [oracle.FIVE, (1, 2, 0, 3, 4)]))
        self.same(len(side_by_side(cube_sides(4), ONE)), 384)
        self.refused(TooMany("made", 400), side_by_side, cube_sides(4), TWO)

    def test_refusals_in_order(self):
        many = World(7, [oracle.beside(oracle.FIVE, (1, 0)), oracle.beside((1, 0, 2, 3, 4), (0, 1))])
        self.same(len(many), 240)
        self.refused(TooMany("points", 12), side_by_side, many, World(6, [swaps(6, (0, 1))] * 7))
        self.refused(TooMany("told", 8), side_by_side, many, World(5, [swaps(5, (0, 1))] * 7))
        self.refused(TooMany("made", 400), side_by_side, many, World(5, [swaps(5, (0, 1))] * 6))


class Within(Case):

    def test_some(self):
        world = within(ring(3), TWO)
        self.same((world.points, world.told), (6, [(1, 2, 0, 3, 4, 5), (3, 4, 5, 0, 1, 2)]))
        self.same(len(world), 18)
        world = within(TWO, World(3, [(0, 2, 1)]))
        self.same(world.told, [(1, 0, 2, 3, 4, 5), (0, 1, 3, 2, 4, 5), (0, 1, 4, 5, 2, 3)])
        world = within(ring(3), World(4, [(2, 1, 0, 3)]))
        self.same(world.told, [
            (1, 2, 0, 3, 4, 5, 6, 7, 8, 9, 10, 11), (0, 1, 2, 4, 5, 3, 6, 7, 8, 9, 10, 11),
            (0, 1, 2, 3, 4, 5, 6, 7, 8, 10, 11, 9), (6, 7, 8, 3, 4, 5, 0, 1, 2, 9, 10, 11),
        ])
        self.same(len(world), 3 ** 4 * 2)
        self.same(lengths(within(EXAMPLE, TWO)), [2, 3, 4])
        self.assertTrue(within(TWO, all_moves(4)) == cube_sides(4))

    def reckoned(self, inner, outer):
        """The told moves point by point."""
        k, m = inner.points, outer.points
        told = []
        for lot in sorted({tuple(sorted({move[p] for move in outer.made})) for p in range(m)}):
            for move in inner.told:
                image = {c * k + p: c * k + p for c in range(m) for p in range(k)}
                image |= {lot[0] * k + p: lot[0] * k + move[p] for p in range(k)}
                told.append(tuple(image[p] for p in range(m * k)))
        for move in outer.told:
            image = {c * k + p: move[c] * k + p for c in range(m) for p in range(k)}
            told.append(tuple(image[p] for p in range(m * k)))
        return told

    def test_corpus(self):
        worlds = small_worlds(6)
        met = 0
        for inner in worlds:
            for outer in worlds:
                if inner.points * outer.points > 12:
                    continue
                told = self.reckoned(inner, outer)
                made = oracle.made_up_to(inner.points * outer.points, told, 400)
                if len(told) > 8 or made is None:
                    continue
                with self.subTest(inner=inner.name, outer=outer.name):
                    met += 1
                    world = within(inner.world, outer.world)
                    self.same((world.points, world.told), (inner.points * outer.points, told))
                    self.same(world.made, made)
                    if all(any(move[p] != p for move in inner.made) for p in range(inner.points)):
                        m, low, high = outer.points, inner.lengths[0], inner.lengths[-1]
                        self.same(lengths(world), list(range(m * low, m * high + 1)))
                        if m:
                            self.same(exchanges(world), inner.first_failing is None)
        self.assertGreater(met, 100)

    def test_no_points(self):
        told = World(0, [(), ()])
        self.same(within(NOTHING, NOTHING).told, [])
        self.same(within(told, told).told, [(), ()])
        self.same(within(told, ONE).told, [(), ()])
        self.same(within(told, World(3, [(1, 0, 2)])).told, [()] * 5)
        self.same(within(World(0, [()]), World(7)).told, [()] * 7)
        self.same(within(EXAMPLE, told).told, [(), ()])
        self.same(within(EXAMPLE, NOTHING).told, [])
        for world in (within(told, World(12, [oracle.ring(12)] * 6)), within(EXAMPLE, told), within(told, told)):
            self.same((world.points, world.made, len(world)), (0, [()], 1))
        self.same(within(told, World(12, [oracle.ring(12)] * 6)).told, [()] * 8)
        self.refused(TooMany("told", 8), within, told, World(12, [oracle.ring(12)] * 7))
        self.refused(TooMany("told", 8), within, World(0, [()]), World(9))
        # Many made moves of the outer world do not count if nothing is left of them.
        self.same(len(within(World(0, [()]), cube_sides(4))), 1)

    def test_points_told_and_made_just_at_the_limits(self):
        self.same(within(World(4), World(3)).points, 12)
        self.same(within(World(12), ONE).points, 12)
        self.same(within(ONE, World(12)).points, 12)
        self.refused(TooMany("points", 12), within, World(7), World(2))
        self.refused(TooMany("points", 12), within, World(2), World(7))
        self.refused(TooMany("points", 12), within, World(12), World(2))
        self.refused(TooMany("points", 12), within, World(12), World(12))
        # Needless told moves count: 2 for each of three orbits, and 2 of the outer world.
        inner = World(2, [(0, 1), (0, 1)])
        self.same(len(within(inner, World(3, [(0, 1, 2)] * 2)).told), 8)
        self.refused(TooMany("told", 8), within, inner, World(3, [(0, 1, 2)] * 3))
        self.refused(TooMany("told", 8), within, World(2, [(0, 1)] * 3), World(3))
        self.same(len(within(World(2, [(0, 1)] * 3), World(3, [(1, 0, 2)])).told), 7)
        self.refused(TooMany("told", 8), within, World(2, [(0, 1)] * 4), World(3, [(1, 0, 2)]))
        # 2 ** 4 * 24 is 384, 20 * 20 is 400, 3 ** 4 * 8 is 648, 6 * 6 * 6 * 2 is 432.
        self.same(len(within(TWO, all_moves(4))), 384)
        self.same(len(within(World(5, [oracle.FIVE, oracle.DOUBLE]), World(2))), 400)
        self.refused(TooMany("made", 400), within, ring(3), World(4, [(1, 2, 3, 0), (0, 3, 2, 1)]))
        self.refused(TooMany("made", 400), within, all_moves(3), World(3, [(1, 0, 2)]))
        self.same(len(within(all_moves(3), World(3))), 216)

    def test_refusals_in_order(self):
        self.refused(TooMany("points", 12), within, World(4, [(1, 2, 3, 0), (1, 0, 2, 3)] * 4), World(4, [(1, 0, 2, 3)]))
        self.refused(TooMany("told", 8), within, World(4, [(1, 2, 3, 0), (1, 0, 2, 3)] * 4), World(3, [(1, 0, 2)]))
        self.refused(TooMany("made", 400), within, World(4, [(1, 2, 3, 0), (1, 0, 2, 3)] * 3), World(2, [(1, 0)] * 2))


class Renamed(Case):

    def test_corpus(self):
        chance = random.Random(61)
        for known in oracle.known():
            for _ in range(3):
                by = list(range(known.points))
                chance.shuffle(by)
                with self.subTest(name=known.name, by=by):
                    world = renamed_world(known.world, tuple(by))
                    told = []
                    for move in known.told:
                        image = {by[p]: by[move[p]] for p in range(known.points)}
                        told.append(tuple(image[p] for p in range(known.points)))
                    self.same((world.points, world.told), (known.points, told))
                    self.same(world.told, [renamed(move, tuple(by)) for move in known.told])
                    self.same(len(world), len(known.made))
                    self.same(lengths(world), known.lengths)

    def test_some(self):
        self.same(renamed_world(EXAMPLE, (1, 2, 3, 4, 5, 0)).told, [(5, 2, 3, 4, 1, 0)])
        self.same(renamed_world(World(3, [(1, 0, 2), (0, 1, 2)]), (2, 1, 0)).told, [(0, 2, 1), (0, 1, 2)])
        self.same(renamed_world(NOTHING, ()).told, [])
        self.same(renamed_world(World(0, [()]), ()).told, [()])
        self.assertTrue(renamed_world(EXAMPLE, still(6)) == EXAMPLE)

    def test_wrong_moves(self):
        for world in (NOTHING, TWO, EXAMPLE, World(12)):
            with self.subTest(points=world.points):
                self.check_move_argument(lambda by: renamed_world(world, by), 0, world.points)

    def test_what_is_passed_stays(self):
        world = World(3, [(1, 2, 0)])
        for call in (lambda: side_by_side(world, world), lambda: within(world, world)):
            call().told.clear()
            self.same((world.told, len(world)), ([(1, 2, 0)], 3))
        renamed_world(world, (2, 1, 0)).made.clear()
        self.same((world.told, len(world)), ([(1, 2, 0)], 3))


if __name__ == "__main__":
    unittest.main()
