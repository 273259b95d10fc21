"""Moves (points 9 to 12) and what heldorder.moves refuses."""

import itertools
import unittest

from heldorder.errors import BadNumber, NotAMove, NotAPoint, RepeatedPoint, TooMany, UnlikeSizes
from heldorder.moves import (
    carried, compose, cycles, from_cycles, held_points, in_turn, is_move, moved_points, opposite, power, renamed,
    round_length, still_move,
)
from tests.support import NOT_MOVES, Case, still

FOURS = list(itertools.permutations(range(4)))
FIVES = list(itertools.permutations(range(5)))
ROUND = (1, 2, 3, 4, 0)
# Cycles of 3, 4 and 5 points: 60 times bring each point back.
SIXTY = (1, 2, 0, 4, 5, 6, 3, 8, 9, 10, 11, 7)


def do(first, second):
    return tuple(second[image] for image in first)


def repeat(move, times):
    result = still(len(move))
    for _ in range(times):
        result = do(result, move)
    return result


class IsMove(Case):

    def test_moves_on_each_number_of_points(self):
        for points in range(13):
            self.same(is_move(still(points)), True)
            self.same(is_move(still(points)[::-1]), True)

    def test_thirteen_points(self):
        self.same(is_move(tuple(range(13))), False)
        self.same(is_move(tuple(range(40))), False)

    def test_all_tuples_of_three_numbers(self):
        for value in itertools.product(range(-1, 4), repeat=3):
            self.same(is_move(value), sorted(value) == [0, 1, 2])

    def test_what_is_no_move(self):
        for value in NOT_MOVES:
            with self.subTest(value=repr(value)[:60]):
                self.same(is_move(value), False)

    def test_nested_values(self):
        deep = (((((0,),),),),)
        for value in (deep, [deep], (deep, 0), ((1, 0),), ([1, 0],), (0, [1]), ((), ()), "", "10"):
            self.same(is_move(value), False)

    def test_lists_of_moves_as_tuples(self):
        for move in FOURS:
            self.same(is_move(move), True)
            self.same(is_move(list(move)), False)


class Still(Case):

    def test_each_number_of_points(self):
        for points in range(13):
            self.same(still_move(points), still(points))

    def test_wrong_numbers(self):
        self.check_number_argument(still_move, 0, 12)


class Compose(Case):

    def test_example(self):
        self.same(compose((1, 2, 0), (0, 2, 1)), (2, 1, 0))

    def test_all_pairs_on_four_points(self):
        for first in FOURS:
            for second in FOURS:
                self.same(compose(first, second), tuple(second[first[p]] for p in range(4)))

    def test_no_points_and_twelve(self):
        self.same(compose((), ()), ())
        self.same(compose(SIXTY, still(12)), SIXTY)
        self.same(compose(SIXTY, SIXTY), repeat(SIXTY, 2))

    def test_wrong_moves(self):
        self.check_move_argument(lambda value: compose(value, (1, 0)), 0)
        self.check_move_argument(lambda value: compose((1, 0), value), 1)
        self.check_move_argument(lambda value: compose(value, None), 0)
        self.check_move_argument(lambda value: compose(value, value), 0)

    def test_unlike_sizes(self):
        self.refused(UnlikeSizes(2, 3), compose, (1, 0), (0, 1, 2))
        self.refused(UnlikeSizes(3, 2), compose, (0, 1, 2), (1, 0))
        self.refused(UnlikeSizes(0, 12), compose, (), SIXTY)
        self.refused(NotAMove(1), compose, (0, 1), (0, 1, 1))


class Opposite(Case):

    def test_all_moves_on_five_points(self):
        for move in FIVES:
            self.same(do(move, opposite(move)), still(5))
            self.same(do(opposite(move), move), still(5))

    def test_ends(self):
        self.same(opposite(()), ())
        self.same(opposite((0,)), (0,))
        self.same(opposite(ROUND), (4, 0, 1, 2, 3))

    def test_wrong_moves(self):
        self.check_move_argument(opposite, 0)


class Power(Case):

    def test_small_numbers(self):
        for move in FOURS:
            for times in range(8):
                self.same(power(move, times), repeat(move, times))
                self.same(power(move, -times), repeat(power(move, 3 * 4 - 1), times))

    def test_zero(self):
        self.same(power(ROUND, 0), still(5))
        self.same(power((), 0), ())

    def test_the_ends_of_the_range(self):
        self.same(power(ROUND, 1000), still(5))
        self.same(power(ROUND, -1000), still(5))
        self.same(power((), 1000), ())
        self.same(power(SIXTY, 1000), repeat(SIXTY, 40))
        self.same(power(SIXTY, -1000), repeat(SIXTY, 20))
        self.same(power(ROUND, 999), (4, 0, 1, 2, 3))
        self.same(power(ROUND, -999), ROUND)

    def test_wrong_arguments(self):
        self.check_number_argument(lambda value: power(ROUND, value), -1000, 1000)
        self.check_move_argument(lambda value: power(value, 1), 0)
        self.check_move_argument(lambda value: power(value, 1001), 0)


class InTurn(Case):

    def test_from_left_to_right(self):
        for moves in itertools.product(FOURS[::5], repeat=3):
            self.same(in_turn(4, list(moves)), do(do(moves[0], moves[1]), moves[2]))
            self.same(in_turn(4, moves), do(do(moves[0], moves[1]), moves[2]))
        self.same(in_turn(3, [(1, 2, 0), (0, 2, 1)]), (2, 1, 0))

    def test_none_in_turn(self):
        for points in range(13):
            self.same(in_turn(points, []), still(points))
            self.same(in_turn(points, ()), still(points))

    def test_four_hundred(self):
        self.same(in_turn(5, [ROUND] * 399), (4, 0, 1, 2, 3))
        self.same(in_turn(5, [ROUND] * 400), still(5))
        self.refused(TooMany("list", 400), in_turn, 5, [ROUND] * 401)
        self.refused(TooMany("list", 400), in_turn, 5, (None,) * 401)

    def test_a_bad_entry_at_any_index(self):
        self.check_move_list_argument(lambda moves: in_turn(3, moves), 3, "list", 400)

    def test_order_of_checks(self):
        self.check_number_argument(lambda value: in_turn(value, []), 0, 12)
        self.refused(BadNumber(13, 0, 12), in_turn, 13, [None] * 401)
        self.refused(BadNumber(True, 0, 12), in_turn, True, [(0,)])
        self.refused(NotAMove(0), in_turn, 2, [(0, 1, 2), (0, 1)])


class Carried(Case):

    def test_rows_with_duplicates_and_in_any_order(self):
        for row in itertools.product(range(4), repeat=3):
            for move in FOURS[::3]:
                self.same(carried(move, row), tuple(move[p] for p in row))
                self.same(carried(move, list(row)), tuple(move[p] for p in row))

    def test_long_rows(self):
        self.same(carried(ROUND, [0, 4] * 12), (1, 0) * 12)
        self.same(carried((), []), ())

    def test_wrong_arguments(self):
        self.check_move_argument(lambda value: carried(value, [0]), 0)
        self.check_move_argument(lambda value: carried(value, [None] * 25), 0)
        for points in (1, 5, 12):
            self.check_row_argument(lambda row: carried(still(points), row), points)
        self.refused(NotAPoint(0), carried, (), [0])


class Renamed(Case):

    def test_all_pairs_on_four_points(self):
        for move in FOURS:
            for by in FOURS:
                new = renamed(move, by)
                self.assertIsInstance(new, tuple)
                for p in range(4):
                    self.same(new[by[p]], by[move[p]])

    def test_ends(self):
        self.same(renamed((), ()), ())
        self.same(renamed((1, 0, 2), (1, 2, 0)), (0, 2, 1))
        self.same(renamed((1, 2, 3, 0), (1, 2, 0, 3)), (3, 2, 0, 1))

    def test_wrong_arguments(self):
        self.check_move_argument(lambda value: renamed(value, (0, 1)), 0)
        self.check_move_argument(lambda value: renamed((0, 1), value), 1)
        self.check_move_argument(lambda value: renamed(value, value), 0)
        self.refused(UnlikeSizes(2, 3), renamed, (0, 1), (0, 1, 2))
        self.refused(UnlikeSizes(12, 0), renamed, SIXTY, ())


class HeldAndMoved(Case):

    def test_all_moves_on_five_points(self):
        for move in FIVES:
            self.same(held_points(move), tuple(p for p in range(5) if move[p] == p))
            self.same(moved_points(move), tuple(p for p in range(5) if move[p] != p))

    def test_ends(self):
        self.same(held_points(()), ())
        self.same(moved_points(()), ())
        self.same(held_points(still(12)), still(12))
        self.same(moved_points(SIXTY), still(12))

    def test_wrong_moves(self):
        self.check_move_argument(held_points, 0)
        self.check_move_argument(moved_points, 0)


class Cycles(Case):

    def test_example(self):
        self.same(cycles((2, 1, 4, 3, 0)), [(0, 2, 4)])

    def test_some(self):
        self.same(cycles(()), [])
        self.same(cycles(still(12)), [])
        self.same(cycles((1, 0)), [(0, 1)])
        self.same(cycles((3, 2, 1, 0)), [(0, 3), (1, 2)])
        self.same(cycles((4, 0, 1, 2, 3)), [(0, 4, 3, 2, 1)])
        self.same(cycles((0, 3, 4, 1, 5, 2)), [(1, 3), (2, 4, 5)])
        self.same(cycles(SIXTY), [(0, 1, 2), (3, 4, 5, 6), (7, 8, 9, 10, 11)])

    def test_all_moves_on_five_points(self):
        for move in FIVES:
            rows = cycles(move)
            self.assertEqual(sorted(p for row in rows for p in row), [p for p in range(5) if move[p] != p])
            self.assertEqual(rows, sorted(rows))
            for row in rows:
                self.assertGreaterEqual(len(row), 2)
                self.assertEqual(row[0], min(row))
                self.assertEqual([move[p] for p in row], list(row[1:] + row[:1]))

    def test_wrong_moves(self):
        self.check_move_argument(cycles, 0)


class FromCycles(Case):

    def test_gives_back_cycles(self):
        for move in FIVES:
            rows = [tuple(p for p in _around(move, start)) for start in range(5) if start == min(_around(move, start))]
            self.same(from_cycles(5, rows), move)
            self.same(from_cycles(5, tuple(list(row[1:] + row[:1]) for row in reversed(rows))), move)

    def test_rows_of_no_point_and_of_one(self):
        self.same(from_cycles(0, []), ())
        self.same(from_cycles(0, [(), []]), ())
        self.same(from_cycles(4, []), still(4))
        self.same(from_cycles(4, ()), still(4))
        self.same(from_cycles(4, [[], (2,), [3, 1]]), (0, 3, 2, 1))
        self.same(from_cycles(12, [tuple(range(12))]), tuple(range(1, 12)) + (0,))

    def test_twenty_four_rows_and_twenty_five(self):
        self.same(from_cycles(3, [()] * 23 + [(0, 2)]), (2, 1, 0))
        self.same(from_cycles(3, [(0, 2)] + [()] * 23), (2, 1, 0))
        self.refused(TooMany("cycles", 24), from_cycles, 3, [()] * 25)
        self.refused(TooMany("cycles", 24), from_cycles, 3, ((None,),) * 25)
        self.refused(TooMany("cycles", 24), from_cycles, 3, [[0] * 25] * 25)

    def test_twenty_four_entries_and_twenty_five(self):
        self.refused(TooMany("row", 24), from_cycles, 3, [[0] * 25])
        self.refused(TooMany("row", 24), from_cycles, 3, [(None,) * 25])
        self.refused(RepeatedPoint(0), from_cycles, 3, [[0] * 24])
        self.refused(NotAPoint(None), from_cycles, 3, [[None] * 24])
        self.refused(TooMany("row", 24), from_cycles, 3, [(0, 1), (2,), [0] * 25])
        self.refused(RepeatedPoint(0), from_cycles, 3, [(0, 0), (2,), [0] * 25])

    def test_a_point_again(self):
        self.refused(RepeatedPoint(1), from_cycles, 3, [(0, 1, 1)])
        self.refused(RepeatedPoint(0), from_cycles, 3, [(0, 1, 0)])
        self.refused(RepeatedPoint(2), from_cycles, 3, [(0, 1), (2,), [2]])
        self.refused(RepeatedPoint(0), from_cycles, 3, [(0,), (1, 0)])
        self.refused(RepeatedPoint(0), from_cycles, 3, [(0, 1), (), (2, 0)])
        self.refused(RepeatedPoint(1), from_cycles, 3, [(0, 1, 1, 3)])

    def test_what_is_no_point(self):
        self.refused(NotAPoint(3), from_cycles, 3, [(0, 3, 0)])
        self.refused(NotAPoint(3), from_cycles, 3, [(0, 1), (2, 3, 0)])
        self.refused(NotAPoint(3), from_cycles, 3, [(0, 1), (3, 3)])
        self.refused(NotAPoint(0), from_cycles, 0, [(), (0,)])
        self.refused(NotAPoint(True), from_cycles, 3, [(1, True)])
        self.refused(NotAPoint(False), from_cycles, 3, [(0,), (False,)])
        for value in ([0], (0,), None, "0", -1, 12):
            self.refused(NotAPoint(value), from_cycles, 3, [(0,), [1, value]])

    def test_rows_are_checked_one_after_the_other(self):
        self.refused(NotAPoint(9), from_cycles, 3, [(9,), [0] * 25])
        self.refused(NotAPoint(9), from_cycles, 3, [(9,), (0, 0)])
        self.refused(RepeatedPoint(0), from_cycles, 3, [(0, 0), (9,)])
        self.refused(TooMany("row", 24), from_cycles, 3, [[0] * 25, (9,)])

    def test_wrong_numbers(self):
        self.check_number_argument(lambda value: from_cycles(value, []), 0, 12)
        self.refused(BadNumber(-1, 0, 12), from_cycles, -1, [()] * 25)


def _around(move, start):
    row = [start]
    while move[row[-1]] != start:
        row.append(move[row[-1]])
    return tuple(row)


class RoundLength(Case):

    def test_some(self):
        self.same(round_length(()), 1)
        self.same(round_length(still(12)), 1)
        self.same(round_length((1, 0)), 2)
        self.same(round_length((1, 2, 0, 4, 3)), 6)
        self.same(round_length((1, 0, 3, 2)), 2)
        self.same(round_length((1, 2, 3, 0, 5, 4)), 4)
        self.same(round_length(SIXTY), 60)
        self.same(round_length(tuple(range(1, 12)) + (0,)), 12)

    def test_all_moves_on_five_points(self):
        for move in FIVES:
            least = next(k for k in range(1, 100) if repeat(move, k) == still(5))
            self.same(round_length(move), least)

    def test_wrong_moves(self):
        self.check_move_argument(round_length, 0)


class Arguments(Case):

    def test_what_is_passed_stays(self):
        moves = [(1, 0, 2), (0, 2, 1)]
        row = [0, 2, 2]
        rows = [[0, 2], [1]]
        in_turn(3, moves)
        carried((1, 2, 0), row)
        from_cycles(3, rows)
        self.same(moves, [(1, 0, 2), (0, 2, 1)])
        self.same(row, [0, 2, 2])
        self.same(rows, [[0, 2], [1]])

    def test_what_is_returned_may_be_changed(self):
        first = cycles((1, 0, 3, 2))
        first.append(None)
        self.same(cycles((1, 0, 3, 2)), [(0, 1), (2, 3)])

    def test_a_later_change_of_what_was_passed(self):
        row, rows, moves = [0, 1], [[0, 1]], [(1, 0)]
        images, move, turn = carried((1, 0), row), from_cycles(2, rows), in_turn(2, moves)
        row.append(1)
        rows[0].reverse()
        rows.clear()
        moves.clear()
        self.same((images, move, turn), ((1, 0), (1, 0), (1, 0)))


if __name__ == "__main__":
    unittest.main()
