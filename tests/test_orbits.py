"""Orbits, carriers, spellings and ways (points 19 and 20)."""

import itertools
import unittest

from heldorder.errors import NotAMove, NotAPoint, NotMade
from heldorder.orbits import (
    carriers, is_spelling, is_way, longest_spelling, orbit, orbits, same_orbit, spelling, way,
)
from heldorder.worlds import World
from tests import oracle
from tests.support import BIG, Case, still, swap

EXAMPLE = World(6, [(1, 2, 3, 0, 5, 4)])
THREE = World(3, [(1, 0, 2), (0, 2, 1)])
FOUR_HUNDRED = World(12, oracle.FOUR_HUNDRED)

# Values that are no sequences of indexes of two told moves.
NOT_WORDS = [
    None, True, False, 0, 1, "", "0", "01", [None], (None,), [True], (False,), [0, True], (1, False), ["0"], [[0]],
    ((0,),), [()], (-1,), [-1], [2], (2,), (0, 2), [0, 1, -2], [BIG], (0, "1"), (0,) * 401, [0] * 401, [0] * 200000,
    [None] * 401,
]


class Orbits(Case):

    def test_corpus(self):
        for name, world, points, _, made in oracle.worlds():
            with self.subTest(name=name):
                lots = [tuple(sorted({move[p] for move in made})) for p in range(points)]
                for p in range(points):
                    self.same(orbit(world, p), lots[p])
                    for q in range(points):
                        self.same(same_orbit(world, p, q), q in lots[p])
                        self.same(carriers(world, p, q), [move for move in made if move[p] == q])
                self.same(orbits(world), sorted(set(lots)))

    def test_some(self):
        self.same(orbits(EXAMPLE), [(0, 1, 2, 3), (4, 5)])
        self.same(orbits(World(0)), [])
        self.same(orbits(World(0, [()])), [])
        self.same(orbits(World(3)), [(0,), (1,), (2,)])
        self.same(orbits(World(4, [swap(4, 0, 3)])), [(0, 3), (1,), (2,)])
        self.same(orbits(World(12, [tuple(range(1, 12)) + (0,)])), [still(12)])
        self.same(orbits(FOUR_HUNDRED), [(0, 1, 2, 3, 4), (5, 6, 7, 8, 9), (10,), (11,)])
        self.same(orbit(FOUR_HUNDRED, 7), (5, 6, 7, 8, 9))
        self.same(carriers(EXAMPLE, 0, 4), [])
        self.same(len(carriers(FOUR_HUNDRED, 3, 1)), 80)
        self.same(len(carriers(FOUR_HUNDRED, 11, 11)), 400)
        self.same(same_orbit(FOUR_HUNDRED, 10, 11), False)

    def test_wrong_points(self):
        for world in (EXAMPLE, World(0), FOUR_HUNDRED):
            points = world.points
            self.check_point_argument(lambda value: orbit(world, value), points)
        for call in (same_orbit, carriers, way):
            self.check_point_argument(lambda value: call(EXAMPLE, value, 0), 6)
            self.check_point_argument(lambda value: call(EXAMPLE, 0, value), 6)
            self.refused(NotAPoint(6), call, EXAMPLE, 6, 7)
            self.refused(NotAPoint(True), call, EXAMPLE, True, False)
            self.refused(NotAPoint(0), call, World(0), 0, 1)

    def test_new_lists(self):
        orbits(EXAMPLE).clear()
        carriers(EXAMPLE, 0, 1).append(None)
        self.same(orbits(EXAMPLE), [(0, 1, 2, 3), (4, 5)])
        self.same(carriers(EXAMPLE, 0, 1), [(1, 2, 3, 0, 5, 4)])


class Spelling(Case):

    def test_corpus(self):
        for name, world, points, told, made in oracle.worlds():
            if len(made) <= 24:
                with self.subTest(name=name):
                    words = [oracle.best_word(told, still(points), move, 24) for move in made]
                    for move, word in zip(made, words):
                        self.same(spelling(world, move), word)
                    self.same(longest_spelling(world), max(len(word) for word in words))

    def test_the_shortest_one(self):
        world = World(4, [(1, 2, 3, 0), (3, 0, 1, 2)])
        self.same(spelling(world, (3, 0, 1, 2)), (1,))
        self.same(spelling(World(4, [(1, 2, 3, 0)]), (3, 0, 1, 2)), (0, 0, 0))
        self.same(spelling(World(4, [(1, 2, 3, 0), (2, 3, 0, 1)]), (2, 3, 0, 1)), (1,))

    def test_of_several_the_least(self):
        world = World(4, [swap(4, 0, 1), swap(4, 2, 3), swap(4, 0, 1)])
        self.same(spelling(world, swap(4, 0, 1)), (0,))
        self.same(spelling(world, (1, 0, 3, 2)), (0, 1))
        self.same(spelling(World(4, [(1, 2, 3, 0), (3, 0, 1, 2)]), (2, 3, 0, 1)), (0, 0))
        self.same(spelling(THREE, (2, 1, 0)), (0, 1, 0))
        self.same(spelling(THREE, (1, 2, 0)), (1, 0))
        self.same(spelling(THREE, (2, 0, 1)), (0, 1))

    def test_the_still_move(self):
        for name, world, points, _, _ in oracle.worlds():
            with self.subTest(name=name):
                self.same(spelling(world, still(points)), ())
        self.same(spelling(World(3, [still(3)]), still(3)), ())

    def test_what_is_not_made(self):
        self.refused(NotMade((1, 0, 2, 3, 4, 5)), spelling, EXAMPLE, (1, 0, 2, 3, 4, 5))
        self.refused(NotMade((1, 0)), spelling, World(2), (1, 0))
        made = THREE.made
        for move in itertools.permutations(range(3)):
            self.assertIn(move, made)
            spelling(THREE, move)

    def test_what_is_no_move(self):
        for call in (spelling, lambda world, move: is_spelling(world, move, ())):
            self.check_move_argument(lambda value: call(EXAMPLE, value), 0, 6)
            self.check_move_argument(lambda value: call(World(0), value), 0, 0)
            self.refused(NotAMove(0), call, World(2), (0, 1, 2))

    def test_four_hundred_made_moves(self):
        for move in FOUR_HUNDRED.made[::37]:
            word = spelling(FOUR_HUNDRED, move)
            self.same(oracle.spell(oracle.FOUR_HUNDRED, still(12), word), move)
            self.same(word, oracle.best_word(oracle.FOUR_HUNDRED, still(12), move, 8) or word)

    def test_longest(self):
        self.same(longest_spelling(World(0)), 0)
        self.same(longest_spelling(World(0, [()])), 0)
        self.same(longest_spelling(World(3, [still(3)])), 0)
        self.same(longest_spelling(World(12, [tuple(range(1, 12)) + (0,)])), 11)
        self.same(longest_spelling(World(12, [tuple(range(1, 12)) + (0,), (11,) + tuple(range(11))])), 6)
        self.same(longest_spelling(THREE), 3)


class IsSpelling(Case):

    def test_all_short_words(self):
        told = THREE.told
        for length in range(6):
            for word in itertools.product(range(2), repeat=length):
                for move in THREE:
                    expected = oracle.spell(told, still(3), word) == move
                    self.same(is_spelling(THREE, move, word), expected)
                    self.same(is_spelling(THREE, move, list(word)), expected)

    def test_long_words(self):
        self.same(is_spelling(THREE, still(3), [0] * 400), True)
        self.same(is_spelling(THREE, still(3), (1,) * 400), True)
        self.same(is_spelling(THREE, (1, 0, 2), (0,) * 399), True)
        self.same(is_spelling(THREE, (1, 0, 2), (0,) * 401), False)
        self.same(is_spelling(THREE, still(3), [0] * 402), False)

    def test_what_is_no_word(self):
        for value in NOT_WORDS:
            with self.subTest(value=repr(value)[:60]):
                for move in THREE:
                    self.same(is_spelling(THREE, move, value), False)

    def test_no_told_moves(self):
        self.same(is_spelling(World(2), (0, 1), ()), True)
        self.same(is_spelling(World(2), (0, 1), []), True)
        self.same(is_spelling(World(2), (0, 1), (0,)), False)
        self.same(is_spelling(World(2), (0, 1), (-1,)), False)
        self.same(is_spelling(World(0), (), ()), True)

    def test_a_move_that_is_not_made(self):
        world = World(3, [(1, 0, 2)])
        for word in ((), (0,), (0, 0), [0, 0, 0], None):
            self.same(is_spelling(world, (0, 2, 1), word), False)


class Way(Case):

    def test_corpus(self):
        for name, world, points, told, _ in oracle.worlds():
            for p in range(points):
                for q in range(points):
                    with self.subTest(name=name, p=p, q=q):
                        if same_orbit(world, p, q):
                            self.same(way(world, p, q), oracle.best_word(told, (p,), (q,), 12))
                        else:
                            self.same(way(world, p, q), None)

    def test_some(self):
        self.same(way(EXAMPLE, 0, 3), (0, 0, 0))
        self.same(way(EXAMPLE, 3, 0), (0,))
        self.same(way(EXAMPLE, 0, 4), None)
        self.same(way(World(4, [(3, 0, 1, 2), (1, 2, 3, 0)]), 0, 2), (0, 0))
        self.same(way(World(4, [(1, 2, 3, 0), (3, 0, 1, 2), (2, 3, 0, 1)]), 0, 2), (2,))
        self.same(way(World(3, [still(3), swap(3, 0, 1), swap(3, 0, 1)]), 0, 1), (1,))
        self.same(way(World(12, [tuple(range(1, 12)) + (0,)]), 0, 11), (0,) * 11)
        self.same(way(FOUR_HUNDRED, 10, 11), None)

    def test_from_a_point_to_itself(self):
        for name, world, points, _, _ in oracle.worlds():
            for p in range(points):
                self.same(way(world, p, p), ())


class IsWay(Case):

    def test_all_short_words(self):
        world = World(5, [(1, 2, 3, 0, 4), (1, 0, 2, 3, 4)])
        for length in range(5):
            for word in itertools.product(range(2), repeat=length):
                for p in range(5):
                    for q in range(5):
                        expected = oracle.spell(world.told, (p,), word) == (q,)
                        self.same(is_way(world, p, q, word), expected)
                        self.same(is_way(world, p, q, list(word)), expected)

    def test_long_words(self):
        self.same(is_way(THREE, 2, 2, [0] * 400), True)
        self.same(is_way(THREE, 2, 2, (0,) * 401), False)

    def test_what_is_no_word(self):
        for value in NOT_WORDS:
            with self.subTest(value=repr(value)[:60]):
                for p in range(3):
                    for q in range(3):
                        self.same(is_way(THREE, p, q, value), False)

    def test_no_told_moves(self):
        self.same(is_way(World(2), 0, 0, ()), True)
        self.same(is_way(World(2), 0, 1, ()), False)
        self.same(is_way(World(2), 0, 0, (0,)), False)

    def test_wrong_points(self):
        for word in ((), None, [0] * 401):
            self.check_point_argument(lambda value: is_way(EXAMPLE, value, 0, word), 6)
            self.check_point_argument(lambda value: is_way(EXAMPLE, 0, value, word), 6)
            self.refused(NotAPoint(7), is_way, EXAMPLE, 7, 6, word)

    def test_words_stay(self):
        word = [0, 0]
        is_way(EXAMPLE, 0, 2, word)
        is_spelling(EXAMPLE, still(6), word)
        self.same(word, [0, 0])


if __name__ == "__main__":
    unittest.main()
