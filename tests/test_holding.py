"""Holders, the holder world and images of rows (points 21 to 23)."""

import itertools
import random
import unittest

from heldorder.errors import BadNumber, NotAMove, NotAPoint, TooMany
from heldorder.holding import (
    common_held, first_mover, holder_counts, holder_world, holders, is_mover, movers, orbit_under, row_images,
)
from heldorder.worlds import World
from tests import oracle
from tests.support import NOT_MOVES, Case, still, swap

EXAMPLE = World(6, [(1, 2, 3, 0, 5, 4)])
FOUR = World(4, [(1, 2, 3, 0), (1, 0, 2, 3)])
FOUR_HUNDRED = World(12, oracle.FOUR_HUNDRED)


def chosen(points, moves):
    """The told moves of the holder world by the words of point 22."""
    taken, made = [], [still(points)]
    for move in moves:
        if move not in made:
            taken.append(move)
            made = oracle.made(points, taken)
    return taken


class Holders(Case):

    def test_corpus(self):
        for seed, (name, world, points, _, made) in enumerate(oracle.worlds()):
            for lot in oracle.rows_to_try(points, seed):
                with self.subTest(name=name, lot=lot):
                    expected = oracle.holders(made, lot)
                    self.same(holders(world, lot), expected)
                    self.same(holders(world, list(lot)), expected)

    def test_duplicates_and_order_do_not_matter(self):
        for lot in itertools.product(range(4), repeat=3):
            self.same(holders(FOUR, lot), holders(FOUR, sorted(set(lot))))

    def test_some(self):
        self.same(holders(EXAMPLE, []), EXAMPLE.made)
        self.same(holders(EXAMPLE, [4]), [(0, 1, 2, 3, 4, 5), (2, 3, 0, 1, 4, 5)])
        self.same(holders(EXAMPLE, (5, 4, 5)), [(0, 1, 2, 3, 4, 5), (2, 3, 0, 1, 4, 5)])
        self.same(holders(EXAMPLE, (0,)), [still(6)])
        self.same(holders(World(0), ()), [()])
        self.same(len(holders(FOUR_HUNDRED, (0,))), 80)
        self.same(len(holders(FOUR_HUNDRED, [10, 11] * 12)), 400)
        self.same(holders(FOUR_HUNDRED, (0, 1, 5, 6)), [still(12)])

    def test_wrong_lots(self):
        for world in (EXAMPLE, World(1), FOUR_HUNDRED):
            for call in (holders, holder_world, holder_counts, row_images):
                self.check_row_argument(lambda lot: call(world, lot), world.points)
        for call in (holders, holder_world, holder_counts, row_images):
            self.refused(NotAPoint(0), call, World(0), [0])
            self.refused(TooMany("row", 24), call, World(0), [0] * 25)

    def test_new_lists(self):
        holders(EXAMPLE, [4]).clear()
        self.same(len(holders(EXAMPLE, [4])), 2)
        self.same(EXAMPLE.made, oracle.made(6, EXAMPLE.told))
        holders(EXAMPLE, []).clear()
        self.same(len(EXAMPLE), 4)


class HolderWorld(Case):

    def test_corpus(self):
        for seed, (name, world, points, _, made) in enumerate(oracle.worlds()):
            for lot in oracle.rows_to_try(points, seed, 4):
                with self.subTest(name=name, lot=lot):
                    moves = oracle.holders(made, lot)
                    below = holder_world(world, lot)
                    self.assertIs(type(below), World)
                    self.same(below.points, points)
                    self.same(below.made, moves)
                    self.same(below.told, chosen(points, moves))
                    self.same(holder_world(world, list(lot)).told, below.told)

    def test_the_empty_lot(self):
        self.same(holder_world(EXAMPLE, ()).told, [(1, 2, 3, 0, 5, 4)])
        self.same(holder_world(World(4, [(3, 0, 1, 2)]), ()).told, [(1, 2, 3, 0)])
        self.same(holder_world(FOUR, []).told, [(0, 1, 3, 2), (0, 2, 1, 3), (1, 0, 2, 3)])
        self.same(holder_world(World(3, [still(3)] * 8), []).told, [])
        self.same(holder_world(World(0, [()]), []).told, [])

    def test_it_equals_the_world_for_the_empty_lot(self):
        for name, world, _, _, _ in oracle.worlds():
            with self.subTest(name=name):
                self.same(holder_world(world, ()) == world, True)

    def test_four_hundred(self):
        below = holder_world(FOUR_HUNDRED, ())
        self.same(below.made, FOUR_HUNDRED.made)
        self.same(below.told, chosen(12, FOUR_HUNDRED.made))

    def test_each_choice_doubles_at_least(self):
        told = oracle.SIX_SWAPS
        self.same(holder_world(World(12, told), ()).told, sorted(told))
        self.same(holder_world(World(12, told), (1, 8)).told, sorted(told[i] for i in (1, 2, 3, 5)))


class Movers(Case):

    def test_corpus(self):
        for seed, (name, world, points, _, made) in enumerate(oracle.worlds()):
            for lot in oracle.rows_to_try(points, seed, 5):
                for point in range(points):
                    with self.subTest(name=name, lot=lot, point=point):
                        found = [move for move in oracle.holders(made, lot) if move[point] != point]
                        self.same(movers(world, lot, point), found)
                        self.same(movers(world, list(lot), point), found)
                        self.same(first_mover(world, lot, point), found[0] if found else None)

    def test_is_mover_for_all_moves_of_four_points(self):
        world = World(4, [(1, 0, 3, 2), (0, 1, 3, 2)])
        for lot in [(), (0,), [1, 0, 1], (2, 2), (0, 3)]:
            for point in range(4):
                found = movers(world, lot, point)
                for move in itertools.permutations(range(4)):
                    self.same(is_mover(world, lot, point, move), move in found)
                    self.same(is_mover(world, lot, point, list(move)), False)

    def test_is_mover_for_any_value(self):
        for value in NOT_MOVES + [(0, 1, 2), (True, False), [1, 0], ((1, 0),), (1, False), (True, 0)]:
            with self.subTest(value=repr(value)[:60]):
                self.same(is_mover(World(2, [(1, 0)]), (), 0, value), False)
        self.same(is_mover(World(2, [(1, 0)]), (), 0, (1, 0)), True)
        self.same(is_mover(World(2, [(1, 0)]), (0,), 1, (1, 0)), False)
        self.same(is_mover(World(2, [(1, 0)]), (), 0, (0, 1)), False)
        self.same(is_mover(World(3, [(1, 0, 2)]), (), 2, (1, 0, 2)), False)
        self.same(is_mover(World(3), (), 0, (1, 0, 2)), False)

    def test_wrong_arguments(self):
        for call in (
            movers, first_mover, orbit_under,
            lambda world, lot, point: is_mover(world, lot, point, (1, 2, 3, 0, 5, 4)),
            lambda world, lot, point: is_mover(world, lot, point, None),
        ):
            self.check_row_argument(lambda lot: call(EXAMPLE, lot, 0), 6)
            self.check_row_argument(lambda lot: call(FOUR_HUNDRED, lot, 0), 12)
            self.check_point_argument(lambda point: call(EXAMPLE, [0], point), 6)
            self.refused(TooMany("row", 24), call, EXAMPLE, [0] * 25, 6)
            self.refused(NotAPoint(7), call, EXAMPLE, [7], 6)
            self.refused(NotAPoint(0), call, World(0), [], 0)

    def test_new_lists(self):
        movers(EXAMPLE, [], 0).clear()
        self.same(len(movers(EXAMPLE, [], 0)), 3)


class HolderCounts(Case):

    def test_corpus(self):
        for seed, (name, world, points, _, made) in enumerate(oracle.worlds()):
            for row in oracle.rows_to_try(points, seed, 15):
                with self.subTest(name=name, row=row):
                    expected = [len(oracle.holders(made, row[:k])) for k in range(len(row) + 1)]
                    self.same(holder_counts(world, row), expected)
                    self.same(holder_counts(world, list(row)), expected)

    def test_some(self):
        self.same(holder_counts(EXAMPLE, ()), [4])
        self.same(holder_counts(EXAMPLE, (4, 5, 4, 0)), [4, 2, 2, 2, 1])
        self.same(holder_counts(World(0), []), [1])
        self.same(holder_counts(FOUR_HUNDRED, [10] * 23 + [0]), [400] * 24 + [80])


class OrbitUnder(Case):

    def test_corpus(self):
        for seed, (name, world, points, _, made) in enumerate(oracle.worlds()):
            for lot in oracle.rows_to_try(points, seed, 5):
                for point in range(points):
                    with self.subTest(name=name, lot=lot, point=point):
                        moves = oracle.holders(made, lot)
                        found = tuple(sorted({move[point] for move in moves}))
                        self.same(orbit_under(world, lot, point), found)
                        self.same(orbit_under(world, list(lot), point), found)
                        rest = len(oracle.holders(moves, (point,)))
                        self.assertEqual(len(moves), len(found) * rest)


class RowImages(Case):

    def test_corpus(self):
        for seed, (name, world, points, _, made) in enumerate(oracle.worlds()):
            for row in oracle.rows_to_try(points, seed, 10):
                with self.subTest(name=name, row=row):
                    found = sorted({tuple(move[p] for p in row) for move in made})
                    self.same(row_images(world, row), found)
                    self.same(row_images(world, list(row)), found)
                    self.assertEqual(len(found) * len(oracle.holders(made, row)), len(made))

    def test_some(self):
        self.same(row_images(EXAMPLE, ()), [()])
        self.same(row_images(EXAMPLE, [4, 0, 4]), [(4, 0, 4), (4, 2, 4), (5, 1, 5), (5, 3, 5)])
        self.same(row_images(World(0), []), [()])
        self.same(len(row_images(FOUR_HUNDRED, (0, 1, 5, 6))), 400)


class CommonHeld(Case):

    def test_no_move(self):
        for points in range(13):
            self.same(common_held(points, []), still(points))
            self.same(common_held(points, ()), still(points))

    def test_drawn_lists(self):
        chance = random.Random(5)
        for _ in range(200):
            points = chance.randrange(1, 13)
            moves = []
            for _ in range(chance.randrange(4)):
                first, second = chance.randrange(points), chance.randrange(points)
                moves.append(swap(points, first, second))
            expected = tuple(p for p in range(points) if all(move[p] == p for move in moves))
            self.same(common_held(points, moves), expected)
            self.same(common_held(points, tuple(moves)), expected)

    def test_some(self):
        self.same(common_held(4, [swap(4, 1, 2)]), (0, 3))
        self.same(common_held(4, [swap(4, 1, 2), swap(4, 2, 3)]), (0,))
        self.same(common_held(4, [(1, 2, 3, 0)]), ())
        self.same(common_held(0, [()]), ())

    def test_four_hundred(self):
        self.same(common_held(12, FOUR_HUNDRED.made), (10, 11))
        self.same(common_held(3, [still(3)] * 399 + [(1, 0, 2)]), (2,))
        self.refused(TooMany("list", 400), common_held, 3, [still(3)] * 401)

    def test_wrong_arguments(self):
        self.check_number_argument(lambda value: common_held(value, []), 0, 12)
        self.check_move_list_argument(lambda moves: common_held(3, moves), 3, "list", 400)
        self.refused(BadNumber(13, 0, 12), common_held, 13, [None] * 401)
        self.refused(NotAMove(0), common_held, 2, [(0, 1, 2), (0, 1)])


class Arguments(Case):

    def test_what_is_passed_stays(self):
        lot, moves = [4, 0, 4], [(1, 0)]
        for call in (holders, holder_world, holder_counts, row_images):
            call(EXAMPLE, lot)
        for call in (movers, first_mover, orbit_under):
            call(EXAMPLE, lot, 1)
        is_mover(EXAMPLE, lot, 1, EXAMPLE.made[1])
        common_held(2, moves)
        self.same(lot, [4, 0, 4])
        self.same(moves, [(1, 0)])
        self.same(EXAMPLE.told, [(1, 2, 3, 0, 5, 4)])


if __name__ == "__main__":
    unittest.main()
