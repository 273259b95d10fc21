"""Closures and marks (points 30 and 31)."""

import random
import unittest

from heldorder.closure import closure, closure_by_marks, is_closed, marks, same_hold
from heldorder.errors import BadNumber, NotAPoint, TooMany
from heldorder.rows import is_full, loose_indexes
from heldorder.worlds import World
from tests import oracle
from tests.support import NOT_WHOLE, Case, still

EXAMPLE = World(6, [(1, 2, 3, 0, 5, 4)])
FOUR_HUNDRED = World(12, oracle.FOUR_HUNDRED)


class Closures(Case):

    def test_corpus(self):
        for seed, known in enumerate(oracle.known()):
            for lot in known.lots_to_try():
                closed = known.closures[lot]
                for given in (lot, list(lot), oracle.muddled(lot, seed)):
                    with self.subTest(name=known.name, lot=given):
                        self.same(closure(known.world, given), closed)
                        self.same(is_closed(known.world, given), closed == lot)

    def test_same_hold_corpus(self):
        for seed, known in enumerate(oracle.known()):
            chance = random.Random(seed)
            for lot in known.lots_to_try(24):
                # Not many lots have the same closure by chance: these have it, or come near it.
                others = [known.closures[lot], known.closures[lot][1:], lot[1:], chance.choice(known.lots)]
                for other in others:
                    with self.subTest(name=known.name, lot=lot, other=other):
                        same = known.shut(lot) == known.shut(other)
                        self.same(same_hold(known.world, lot, other), same)
                        self.same(same_hold(known.world, oracle.muddled(other, seed), list(lot)), same)

    def test_what_must_be_so(self):
        for known in oracle.known():
            chance = random.Random(known.points)
            still_points = tuple(p for p in range(known.points) if all(move[p] == p for move in known.made))
            self.same(closure(known.world, ()), still_points)
            self.same(closure(known.world, still(known.points)), still(known.points))
            for lot in known.lots_to_try(40):
                with self.subTest(name=known.name, lot=lot):
                    closed = closure(known.world, lot)
                    self.assertLessEqual(set(lot), set(closed))
                    self.same(closure(known.world, closed), closed)
                    self.same(is_closed(known.world, closed), True)
                    self.same(same_hold(known.world, lot, closed), True)
                    self.same(is_full(known.world, lot), closed == still(known.points))
                    less = [p for p in lot if chance.randrange(2)]
                    self.assertLessEqual(set(closure(known.world, less)), set(closed))
                    row = oracle.muddled(lot, known.points)
                    loose = tuple(i for i, p in enumerate(row) if p in closure(known.world, row[:i]))
                    self.same(loose_indexes(known.world, row), loose)

    def test_some(self):
        self.same(closure(EXAMPLE, []), ())
        self.same(closure(EXAMPLE, (5,)), (4, 5))
        self.same(closure(EXAMPLE, [3]), (0, 1, 2, 3, 4, 5))
        self.same(closure(EXAMPLE, [5, 4, 5, 5]), (4, 5))
        self.same(closure(World(3), ()), (0, 1, 2))
        self.same(closure(World(0), []), ())
        self.same(is_closed(EXAMPLE, (5, 4, 5)), True)
        self.same(is_closed(EXAMPLE, (5,)), False)
        self.same(is_closed(World(3), [0, 1]), False)
        self.same(is_closed(World(3), [2, 1, 0, 1]), True)
        self.same(is_closed(World(0), ()), True)
        self.same(same_hold(EXAMPLE, (4,), [5, 4]), True)
        self.same(same_hold(EXAMPLE, (4,), [0]), False)
        self.same(same_hold(EXAMPLE, (0, 4), [1]), True)
        self.same(same_hold(World(2), (), [1]), True)

    def test_twenty_four_entries(self):
        self.same(closure(EXAMPLE, [4] * 24), (4, 5))
        self.same(closure(FOUR_HUNDRED, (0, 1) * 12), (0, 1, 2, 3, 4, 10, 11))
        self.same(is_closed(FOUR_HUNDRED, [10, 11] * 12), True)
        self.same(is_closed(FOUR_HUNDRED, (10,) * 24), False)
        self.same(same_hold(FOUR_HUNDRED, [10] * 24, (11,) * 24), True)
        self.same(same_hold(FOUR_HUNDRED, [0] * 24, (1,) * 24), False)

    def test_wrong_lots(self):
        for call in (closure, is_closed):
            for world in (EXAMPLE, FOUR_HUNDRED, World(1)):
                self.check_row_argument(lambda lot: call(world, lot), world.points)
            self.refused(NotAPoint(0), call, World(0), [0])
            self.refused(TooMany("row", 24), call, World(0), [0] * 25)
        self.check_two_row_arguments(lambda first, second: same_hold(EXAMPLE, first, second), 6)

    def test_what_is_passed_stays(self):
        lot, other = [5, 4, 5], [0, 4, 0]
        closure(EXAMPLE, lot)
        is_closed(EXAMPLE, lot)
        same_hold(EXAMPLE, lot, other)
        self.same((lot, other), ([5, 4, 5], [0, 4, 0]))


class Marks(Case):

    def test_corpus(self):
        for known in oracle.known():
            with self.subTest(name=known.name):
                held = {tuple(p for p in range(known.points) if move[p] == p) for move in known.made}
                self.same(marks(known.world), oracle.lot_order(held))

    def test_some(self):
        self.same(marks(EXAMPLE), [(), (4, 5), (0, 1, 2, 3, 4, 5)])
        self.same(marks(World(0)), [()])
        self.same(marks(World(3)), [(0, 1, 2)])
        self.same(marks(World(3, [(1, 0, 2), (0, 2, 1)])), [(), (0,), (1,), (2,), (0, 1, 2)])
        self.same(marks(FOUR_HUNDRED)[:3], [(10, 11), (0, 10, 11), (1, 10, 11)])

    def test_they_give_the_closure(self):
        for known in oracle.known():
            held = marks(known.world)
            for lot in known.lots_to_try(40):
                with self.subTest(name=known.name, lot=lot):
                    self.same(closure_by_marks(known.points, held, lot), known.closures[lot])

    def test_new_lists(self):
        marks(EXAMPLE).clear()
        self.same(len(marks(EXAMPLE)), 3)


class ByMarks(Case):

    def test_drawn_lots(self):
        chance = random.Random(31)
        for _ in range(2000):
            points = chance.randrange(13)
            draw = lambda most: [chance.randrange(points) for _ in range(chance.randrange(most + 1) if points else 0)]
            lots = [draw(24) for _ in range(chance.randrange(6))]
            lots = [chance.choice((list, tuple))(lot) for lot in lots]
            lot = draw(3)
            held = [set(other) for other in lots if set(lot) <= set(other)]
            common = tuple(p for p in range(points) if all(p in other for other in held))
            self.same(closure_by_marks(points, lots, lot), common)
            self.same(closure_by_marks(points, tuple(lots), tuple(lot)), common)

    def test_some(self):
        self.same(closure_by_marks(4, [], []), (0, 1, 2, 3))
        self.same(closure_by_marks(4, (), (2,)), (0, 1, 2, 3))
        self.same(closure_by_marks(0, [], []), ())
        self.same(closure_by_marks(0, [(), []], ()), ())
        self.same(closure_by_marks(4, [(0, 1)], (2,)), (0, 1, 2, 3))
        self.same(closure_by_marks(4, [[2, 0, 2], (0, 2, 1)], [2, 2]), (0, 2))
        self.same(closure_by_marks(4, [(), (1,)], ()), ())
        self.same(closure_by_marks(4, [(3, 2, 1), (0, 1, 2)], [2, 1]), (1, 2))
        self.same(closure_by_marks(12, [tuple(range(11))], [0] * 24), tuple(range(11)))

    def test_many_lots(self):
        for kind in (list, tuple):
            self.same(closure_by_marks(3, kind([(0, 1)] * 4095 + [(1, 2)]), [1]), (1,))
            self.refused(TooMany("list", 4096), closure_by_marks, 3, kind([(0, 1)] * 4097), [1])
            self.refused(TooMany("list", 4096), closure_by_marks, 3, kind([(9,)] * 4097), [0] * 25)
        self.refused(TooMany("list", 4096), closure_by_marks, 0, [()] * 4097, [])

    def test_a_bad_lot_at_any_place(self):
        for place in (0, 1, 2, 4094, 4095):
            lots = [(0, 1)] * 4096
            lots[place] = [0, 1, 5, 6]
            self.refused(NotAPoint(5), closure_by_marks, 5, lots, [0])
            lots[place] = [0] * 25
            self.refused(TooMany("row", 24), closure_by_marks, 5, lots, [0])
            lots[place] = [0] * 24
            self.same(closure_by_marks(5, lots, [0]), (0,))
            for value in NOT_WHOLE + [-1, 5]:
                lots[place] = (1, value)
                self.refused(NotAPoint(value), closure_by_marks, 5, lots, [0])

    def test_one_lot_completely_after_the_other(self):
        self.refused(NotAPoint(3), closure_by_marks, 3, [(0,), (1, 3), [0] * 25, (4,)], (5,))
        self.refused(TooMany("row", 24), closure_by_marks, 3, [[9] * 25, (3,)], (5,))

    def test_the_lot_is_checked_last(self):
        for value in NOT_WHOLE + [-1, 3]:
            self.refused(NotAPoint(value), closure_by_marks, 3, [(0, 1)], [0, value, 7])
            self.refused(NotAPoint(7), closure_by_marks, 3, [(7,)], [0, value])
        self.refused(NotAPoint(3), closure_by_marks, 3, [(0, 1), (3,)], [0] * 25)
        self.refused(TooMany("row", 24), closure_by_marks, 3, [(0, 1)], [7] * 25)
        self.refused(NotAPoint(0), closure_by_marks, 0, [], [0])
        self.check_row_argument(lambda lot: closure_by_marks(6, [(0, 1)], lot), 6)

    def test_the_number_of_points_is_checked_first(self):
        self.check_number_argument(lambda points: closure_by_marks(points, [], []), 0, 12)
        self.refused(BadNumber(13, 0, 12), closure_by_marks, 13, [(0,)] * 4097, [0])

    def test_what_is_passed_stays(self):
        lots, lot = [[2, 0, 2], (0, 2)], [2, 2]
        closure_by_marks(4, lots, lot)
        self.same((lots, lot), ([[2, 0, 2], (0, 2)], [2, 2]))


if __name__ == "__main__":
    unittest.main()
