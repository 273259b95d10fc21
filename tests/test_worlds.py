"""Worlds, made moves, equal worlds and needless told moves (points 16 to 18)."""

import itertools
import unittest

from heldorder.errors import BadNumber, NotAMove, TooMany
from heldorder.worlds import World, is_closed_list, make_all, needless_told
from tests import oracle
from tests.support import NOT_MOVES, Case, still, swap

ALL_OF_THREE = [(0, 1, 2), (0, 2, 1), (1, 0, 2), (1, 2, 0), (2, 0, 1), (2, 1, 0)]


def fifty_nine_and_more(points):
    """Ascending moves on twelve points that begin with the still one."""
    return list(itertools.islice(itertools.permutations(range(points)), 61))


class MakeAll(Case):

    def test_example(self):
        self.same(make_all(3, [(1, 0, 2), (0, 2, 1)]), ALL_OF_THREE)

    def test_corpus(self):
        for name, _, points, told, made in oracle.worlds():
            with self.subTest(name=name):
                self.same(make_all(points, told), made)
                self.same(make_all(points, tuple(told)), made)

    def test_no_told_move(self):
        for points in range(13):
            self.same(make_all(points), [still(points)])
            self.same(make_all(points, []), [still(points)])
            self.same(make_all(points, moves=()), [still(points)])

    def test_eight_told_moves_and_nine(self):
        swaps = [swap(4, 0, 1)] * 4 + [swap(4, 2, 3)] * 4
        self.same(make_all(4, swaps), [(0, 1, 2, 3), (0, 1, 3, 2), (1, 0, 2, 3), (1, 0, 3, 2)])
        self.refused(TooMany("told", 8), make_all, 4, swaps + [still(4)])
        self.refused(TooMany("told", 8), make_all, 4, [None] * 9)

    def test_exactly_four_hundred_made_moves(self):
        moves = make_all(12, oracle.FOUR_HUNDRED)
        self.same(moves, oracle.made(12, oracle.FOUR_HUNDRED))
        self.assertEqual(len(moves), 400)

    def test_more_made_moves(self):
        self.refused(TooMany("made", 400), make_all, 12, oracle.FOUR_HUNDRED_AND_TWENTY)
        self.refused(TooMany("made", 400), make_all, 12, oracle.FOUR_HUNDRED + [swap(12, 10, 11)])
        self.refused(TooMany("made", 400), make_all, 6, [swap(6, p, p + 1) for p in range(5)])
        self.refused(TooMany("made", 400), make_all, 12, [swap(12, p, p + 1) for p in range(8)])
        self.refused(TooMany("made", 400), make_all, 12, [tuple(range(1, 12)) + (0,), swap(12, 0, 1)])

    def test_order_of_checks(self):
        over = oracle.FOUR_HUNDRED_AND_TWENTY
        self.check_number_argument(make_all, 0, 12)
        self.check_move_list_argument(lambda moves: make_all(3, moves), 3, "told", 8)
        self.refused(BadNumber(13, 0, 12), make_all, 13, [None] * 9)
        self.refused(TooMany("told", 8), make_all, 12, over * 3)
        self.refused(NotAMove(3), make_all, 12, over + [(0,)])
        self.refused(NotAMove(2), make_all, 12, over[:2] + [list(over[2])])


class WorldObject(Case):

    def test_example(self):
        self.same(World(3, [(1, 0, 2), (0, 2, 1)]).made, ALL_OF_THREE)

    def test_corpus(self):
        for name, world, points, told, made in oracle.worlds():
            with self.subTest(name=name):
                self.same(world.points, points)
                self.same(world.told, list(told))
                self.same(world.made, made)
                self.same(len(world), len(made))
                self.same(list(world), made)
                self.same([move in world for move in made], [True] * len(made))

    def test_the_arguments_and_errors_of_make_all(self):
        over = oracle.FOUR_HUNDRED_AND_TWENTY
        self.same(World(2).told, [])
        self.same(World(points=2, moves=((1, 0),)).told, [(1, 0)])
        self.check_number_argument(World, 0, 12)
        self.check_move_list_argument(lambda moves: World(3, moves), 3, "told", 8)
        self.refused(BadNumber(None, 0, 12), World, None, [None] * 9)
        self.refused(TooMany("told", 8), World, 12, over * 3)
        self.refused(NotAMove(3), World, 12, over + [(0,)])
        self.refused(TooMany("made", 400), World, 12, over)
        self.same(len(World(12, oracle.FOUR_HUNDRED)), 400)

    def test_told_moves_keep_their_order_and_duplicates(self):
        told = [(1, 0, 2), (0, 1, 2), (1, 0, 2), (0, 2, 1)]
        self.same(World(3, told).told, told)
        self.same(World(3, tuple(told)).told, told)

    def test_the_list_that_was_passed(self):
        told = [(1, 0, 2)]
        world = World(3, told)
        told.append((0, 2, 1))
        self.same(world.told, [(1, 0, 2)])
        self.same(world.made, [(0, 1, 2), (1, 0, 2)])
        self.same(told, [(1, 0, 2), (0, 2, 1)])

    def test_told_and_made_are_new_lists(self):
        world = World(3, [(1, 0, 2)])
        world.told.append(None)
        world.made.clear()
        self.same(world.told, [(1, 0, 2)])
        self.same(world.made, [(0, 1, 2), (1, 0, 2)])
        self.assertIsNot(world.told, world.told)
        self.assertIsNot(world.made, world.made)
        self.same(len(world), 2)
        self.same(list(world), [(0, 1, 2), (1, 0, 2)])

    def test_one_iteration_within_another(self):
        world = World(3, [(1, 2, 0)])
        made = [(0, 1, 2), (1, 2, 0), (2, 0, 1)]
        self.same([(a, b) for a in world for b in world], [(a, b) for a in made for b in made])

    def test_what_lies_in_a_world(self):
        world = World(3, [(1, 0, 2)])
        for value in ALL_OF_THREE:
            self.same(value in world, value in [(0, 1, 2), (1, 0, 2)])
        for value in NOT_MOVES + [[1, 0, 2], [0, 1, 2], (True, False, 2), (1, 0), (), (0, 1, 2, 3), ((1, 0, 2),), ([1], 0, 2)]:
            with self.subTest(value=repr(value)[:60]):
                self.same(value in world, False)
        self.same(() in World(0), True)
        self.same([] in World(0), False)
        self.same((0,) in World(0), False)

    def test_equal_worlds(self):
        world = World(3, [(1, 2, 0)])
        for other in (World(3, [(2, 0, 1)]), World(3, [(1, 2, 0), (0, 1, 2)]), World(3, ((2, 0, 1), (1, 2, 0))), world):
            self.same(world == other, True)
            self.same(world != other, False)
        for other in (World(3), World(3, [(1, 0, 2)]), World(4, [(1, 2, 0, 3)]), World(3, [(1, 0, 2), (0, 2, 1)])):
            self.same(world == other, False)
            self.same(world != other, True)
        self.same(World(0) == World(0, [()]), True)
        self.same(World(0) == World(1), False)
        self.same(World(2) == World(3), False)

    def test_a_world_and_anything_else(self):
        world = World(1)
        for other in (None, 1, 0, True, "", [], (0,), [(0,)], world.made, {}, object()):
            self.same(world == other, False)
            self.same(other == world, False)
            self.same(world != other, True)
            self.same(other != world, True)


class IsClosedList(Case):

    def test_made_moves_are_closed(self):
        for name, _, points, _, made in oracle.worlds():
            if len(made) <= 60:
                with self.subTest(name=name):
                    self.same(is_closed_list(points, made), True)
                    self.same(is_closed_list(points, tuple(made)), True)
                    for index, move in enumerate(made):
                        closed = len(made) == 2 and index == 1
                        self.same(is_closed_list(points, made[:index] + made[index + 1:]), closed)
                        self.same(is_closed_list(points, made[:index] + [move] + made[index:]), False)
                        self.same(is_closed_list(points, made[:index] + [list(move)] + made[index + 1:]), False)

    def test_all_lists_of_moves_on_three_points(self):
        closed = [[0], [0, 1], [0, 2], [0, 5], [0, 3, 4], [0, 1, 2, 3, 4, 5]]
        for many in range(4):
            for places in itertools.product(range(6), repeat=many):
                self.same(is_closed_list(3, [ALL_OF_THREE[place] for place in places]), list(places) in closed)
        self.same(is_closed_list(3, ALL_OF_THREE), True)
        self.same(is_closed_list(3, ALL_OF_THREE[::-1]), False)

    def test_ends(self):
        for points in range(13):
            self.same(is_closed_list(points, []), False)
            self.same(is_closed_list(points, ()), False)
            self.same(is_closed_list(points, [still(points)]), True)
            self.same(is_closed_list(points, [still(points)] * 2), False)
        self.same(is_closed_list(2, [(1, 0)]), False)
        self.same(is_closed_list(2, [(1, 0), (0, 1)]), False)

    def test_sixty_entries_and_sixty_one(self):
        sixty = oracle.made(5, [(1, 2, 3, 4, 0), (1, 2, 0, 3, 4)])
        self.assertEqual(len(sixty), 60)
        self.same(is_closed_list(5, sixty), True)
        self.same(is_closed_list(5, sixty[:-1]), False)
        self.refused(TooMany("list", 60), is_closed_list, 5, sixty + [(4, 3, 2, 1, 0)])
        self.refused(TooMany("list", 60), is_closed_list, 5, (None,) * 61)
        self.same(is_closed_list(12, fifty_nine_and_more(12)[:60]), False)
        self.refused(TooMany("list", 60), is_closed_list, 12, fifty_nine_and_more(12))

    def test_entries_that_are_no_moves(self):
        for value in NOT_MOVES + [(0,), (0, 1, 2), ()]:
            with self.subTest(value=repr(value)[:60]):
                self.same(is_closed_list(2, [value]), False)
                self.same(is_closed_list(2, [(0, 1), value]), False)
                self.same(is_closed_list(2, [value, (0, 1)]), False)
                self.same(is_closed_list(2, [(0, 1), (1, 0), value]), False)
        self.same(is_closed_list(2, [(False, True)]), False)
        self.same(is_closed_list(1, [(0,), (False,)]), False)

    def test_wrong_numbers(self):
        self.check_number_argument(lambda value: is_closed_list(value, []), 0, 12)
        self.refused(BadNumber(13, 0, 12), is_closed_list, 13, [None] * 61)

    def test_the_list_stays(self):
        moves = [(1, 0), (0, 1)]
        is_closed_list(2, moves)
        self.same(moves, [(1, 0), (0, 1)])


class NeedlessTold(Case):

    def test_some(self):
        a, b = swap(4, 0, 1), swap(4, 2, 3)
        both = (1, 0, 3, 2)
        self.same(needless_told(World(4)), ())
        self.same(needless_told(World(4, [a])), ())
        self.same(needless_told(World(4, [a, b, both])), (2,))
        self.same(needless_told(World(4, [both, a, b])), (2,))
        self.same(needless_told(World(4, [a, a, b, b])), (1, 3))

    def test_still_moves_and_equal_moves(self):
        a = swap(3, 0, 1)
        self.same(needless_told(World(3, [still(3)])), (0,))
        self.same(needless_told(World(3, [still(3), a, still(3), a])), (0, 2, 3))
        self.same(needless_told(World(0, [(), ()])), (0, 1))

    def test_corpus(self):
        for name, world, points, told, _ in oracle.worlds():
            with self.subTest(name=name):
                expected = tuple(i for i, move in enumerate(told) if move in oracle.made(points, told[:i]))
                self.same(needless_told(world), expected)

    def test_four_hundred(self):
        world = World(12, oracle.FOUR_HUNDRED + oracle.FOUR_HUNDRED)
        self.same(needless_told(world), (4, 5, 6, 7))


if __name__ == "__main__":
    unittest.main()
