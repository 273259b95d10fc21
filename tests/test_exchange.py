"""Failings, when locks exchange, least holds and lopsided holds (points 34 to 37)."""

import itertools
import unittest

from heldorder.errors import NotAFailing, NotAPoint, TooMany
from heldorder.exchange import (
    exchanges, exchanges_at, failed_condition, failing_from, failing_pairs, first_failing, is_failing, least_holds,
    lopsided_hold, overlapping_lots,
)
from heldorder.flats import covers, lots_above
from heldorder.worlds import World
from tests import oracle
from tests.support import BIG, NOT_WHOLE, Case, allow

EXAMPLE = World(6, [(1, 2, 3, 0, 5, 4)])
THREE = World(3, [(1, 0, 2), (0, 2, 1)])
STILL = World(3)
NOTHING = World(0)
FOUR_HUNDRED = World(12, oracle.FOUR_HUNDRED)
PAIRS = World(12, oracle.SIX_SWAPS)


def least_holds_words(known, point):
    """The least holds by the words of point 37, all strictly contained lots looked at."""
    holds = {lot for lot in known.lots if point not in lot and point in known.closures[lot]}
    return [
        lot for lot in known.lots if lot in holds and not any(
            less in holds for length in range(len(lot)) for less in itertools.combinations(lot, length)
        )
    ]


def overlap_words(known, lot):
    closed = known.shut(lot)
    above = oracle.lot_order({known.shut(closed + (p,)) for p in range(known.points) if p not in closed})
    for first, second in itertools.combinations(above, 2):
        shared = sorted(set(first) & set(second) - set(closed))
        if shared:
            return first, second, shared[0]
    return None


class Conditions(Case):

    def test_corpus(self):
        for seed, known in enumerate(oracle.known()):
            rows = known.tight[:12] + oracle.rows_to_try(known.points, seed, 4)[-8:]
            for held in rows:
                for p, q in itertools.product(range(known.points), repeat=2):
                    with self.subTest(name=known.name, held=held, p=p, q=q):
                        expected = known.failed(held, p, q) if known.is_tight(held) else 1
                        self.same(failed_condition(known.world, held, p, q), expected)
                        self.same(failed_condition(known.world, list(held), p, q), expected)
                        self.same(is_failing(known.world, (held, p, q)), expected == 0)
                        self.same(is_failing(known.world, (list(held), p, q)), False)

    def test_each_number(self):
        self.same(failed_condition(EXAMPLE, (), 0, 4), 0)
        self.same(failed_condition(EXAMPLE, [], 3, 5), 0)
        self.same(failed_condition(EXAMPLE, (4, 5), 0, 1), 1)
        self.same(failed_condition(EXAMPLE, [0] * 24, 0, 1), 1)
        self.same(failed_condition(EXAMPLE, (4,), 0, 5), 2)
        self.same(failed_condition(EXAMPLE, (), 4, 0), 3)
        self.same(failed_condition(EXAMPLE, (), 0, 1), 4)
        self.same(failed_condition(EXAMPLE, (), 0, 0), 4)
        self.same(failed_condition(EXAMPLE, (0, 4), 4, 4), 1)
        self.same(failed_condition(STILL, (), 0, 1), 2)
        # The conditions are looked at in turn: here 2 and 3 both fail.
        self.same(failed_condition(EXAMPLE, (4,), 4, 4), 2)

    def test_wrong_arguments(self):
        self.check_row_argument(lambda held: failed_condition(EXAMPLE, held, 0, 4), 6)
        self.check_point_argument(lambda p: failed_condition(EXAMPLE, [], p, 4), 6)
        self.check_point_argument(lambda q: failed_condition(EXAMPLE, [], 0, q), 6)
        self.refused(TooMany("row", 24), failed_condition, EXAMPLE, [0] * 25, 6, 7)
        self.refused(NotAPoint(8), failed_condition, EXAMPLE, [8], 6, 7)
        self.refused(NotAPoint(6), failed_condition, EXAMPLE, [0, 4], 6, 7)
        self.refused(NotAPoint(0), failed_condition, NOTHING, [], 0, 0)


class Judged(Case):

    def test_the_example(self):
        right = [((), p, q) for p in range(4) for q in (4, 5)]
        for p, q in itertools.product(range(6), repeat=2):
            self.same(is_failing(EXAMPLE, ((), p, q)), ((), p, q) in right)
            self.same(is_failing(EXAMPLE, ((4,), p, q)), False)

    def test_any_value(self):
        for world in (EXAMPLE, STILL, NOTHING, FOUR_HUNDRED):
            self.check_judged_argument(lambda value: is_failing(world, value))

    def test_true_and_false_are_no_points(self):
        world = World(6, [(1, 0, 3, 4, 5, 2)])
        self.same(is_failing(world, ((), 2, 0)), True)
        self.same(is_failing(world, ((), 2, 1)), True)
        self.same(is_failing(world, ((), 2, False)), False)
        self.same(is_failing(world, ((), 2, True)), False)
        self.same(is_failing(EXAMPLE, ((), 0, 4)), True)
        self.same(is_failing(EXAMPLE, ((), False, 4)), False)
        self.same(is_failing(EXAMPLE, ((), True, 4)), False)
        world = World(8, [(1, 0, 2, 3, 4, 5, 6, 7), (0, 1, 3, 4, 5, 2, 7, 6)])
        self.same(is_failing(world, ((1,), 2, 6)), True)
        self.same(is_failing(world, ((True,), 2, 6)), False)
        self.same(is_failing(world, ((0,), 2, 6)), True)
        self.same(is_failing(world, ((False,), 2, 6)), False)

    def test_wrong_forms(self):
        for value in [
            [(), 0, 4], ([], 0, 4), ((), 0), ((), 0, 4, 0), ((), 0, 6), ((), -1, 4), ((6,), 0, 4), ((), "0", 4), (0, 4),
            ((), 0, BIG), (((),), 0, 4), (None, 0, 4), ((), (0,), 4), ((), [0], 4), ((None,), 0, 4), ("", 0, 4), (),
        ]:
            with self.subTest(value=value):
                self.same(is_failing(EXAMPLE, value), False)

    def test_many_held_points(self):
        for many in (2, 23, 24, 25, 1000):
            self.same(is_failing(EXAMPLE, ((4,) * many, 0, 4)), False)
            self.same(is_failing(EXAMPLE, ((0,) * many, 0, 4)), False)


class Pairs(Case):

    def test_corpus(self):
        for seed, known in enumerate(oracle.known()):
            for lot in known.lots_to_try(64):
                pairs = known.pairs(lot)
                for given in (lot, list(lot), oracle.muddled(lot, seed)):
                    with self.subTest(name=known.name, lot=given):
                        self.same(failing_pairs(known.world, given), pairs)
                        self.same(exchanges_at(known.world, given), not pairs)
                        self.same(overlapping_lots(known.world, given), overlap_words(known, lot))

    def test_failing_from_corpus(self):
        for seed, known in enumerate(oracle.known()):
            for lot in known.lots_to_try(12):
                for p, q in itertools.product(range(known.points), repeat=2):
                    given = oracle.muddled(lot, seed + p + q)
                    condition = known.failed(lot, p, q)
                    with self.subTest(name=known.name, lot=given, p=p, q=q):
                        if condition:
                            self.refused(NotAFailing(condition), failing_from, known.world, given, p, q)
                        else:
                            failing = (known.tight_part(lot), p, q)
                            self.same(failing_from(known.world, given, p, q), failing)
                            self.same(is_failing(known.world, failing), True)

    def test_lots_above_corpus(self):
        for known in oracle.known():
            for lot in known.lots_to_try(24):
                with self.subTest(name=known.name, lot=lot):
                    alike = exchanges_at(known.world, lot)
                    self.same(lots_above(known.world, lot) == covers(known.world, lot), alike)
                    self.same(overlapping_lots(known.world, lot) is None, alike)

    def test_some(self):
        self.same(failing_pairs(EXAMPLE, []), [(p, q) for p in range(4) for q in (4, 5)])
        self.same(failing_pairs(EXAMPLE, [5, 5]), [])
        self.same(exchanges_at(EXAMPLE, ()), False)
        self.same(exchanges_at(EXAMPLE, [4] * 24), True)
        self.same(failing_from(EXAMPLE, [], 0, 4), ((), 0, 4))
        self.same(overlapping_lots(EXAMPLE, ()), ((4, 5), (0, 1, 2, 3, 4, 5), 4))
        self.same(overlapping_lots(EXAMPLE, (4,)), None)
        for world in (NOTHING, STILL):
            self.same(failing_pairs(world, ()), [])
            self.same(exchanges_at(world, ()), True)
            self.same(overlapping_lots(world, []), None)

    def test_held_is_the_tight_part_of_the_ascending_row(self):
        # Beside the example two points that are moved alone, and one that nothing moves.
        world = World(9, [(1, 2, 3, 0, 5, 4, 6, 7, 8), (0, 1, 2, 3, 4, 5, 7, 6, 8)])
        self.same(failing_from(world, [8, 7, 6, 7], 0, 5), ((6,), 0, 5))
        self.same(failing_from(world, (8,), 2, 4), ((), 2, 4))

    def test_not_a_failing(self):
        self.refused(NotAFailing(2), failing_from, EXAMPLE, (4,), 0, 5)
        self.refused(NotAFailing(2), failing_from, EXAMPLE, (4,), 4, 4)
        self.refused(NotAFailing(2), failing_from, EXAMPLE, [0] * 24, 0, 0)
        self.refused(NotAFailing(2), failing_from, STILL, (), 0, 1)
        self.refused(NotAFailing(3), failing_from, EXAMPLE, (), 4, 0)
        self.refused(NotAFailing(3), failing_from, THREE, [2, 2], 2, 0)
        self.refused(NotAFailing(4), failing_from, EXAMPLE, (), 0, 1)
        self.refused(NotAFailing(4), failing_from, EXAMPLE, [5], 0, 0)

    def test_wrong_arguments(self):
        for call in (failing_pairs, exchanges_at, overlapping_lots):
            for world in (EXAMPLE, PAIRS):
                self.check_row_argument(lambda lot: call(world, lot), world.points)
            self.refused(NotAPoint(0), call, NOTHING, [0])
            self.refused(TooMany("row", 24), call, NOTHING, [0] * 25)
        call = allow(failing_from, NotAFailing)
        self.check_row_argument(lambda lot: call(EXAMPLE, lot, 0, 4), 6)
        self.check_point_argument(lambda p: call(EXAMPLE, [], p, 4), 6)
        self.check_point_argument(lambda q: call(EXAMPLE, [], 0, q), 6)
        self.refused(NotAPoint(6), failing_from, EXAMPLE, [0], 6, 7)
        self.refused(NotAPoint(7), failing_from, EXAMPLE, [0], 0, 7)
        self.refused(TooMany("row", 24), failing_from, EXAMPLE, [7] * 25, 6, 7)

    def test_new_lists(self):
        failing_pairs(EXAMPLE, []).clear()
        self.same(len(failing_pairs(EXAMPLE, [])), 8)


class Worlds(Case):

    def test_corpus(self):
        for known in oracle.known():
            with self.subTest(name=known.name):
                self.same(first_failing(known.world), known.first_failing)
                self.same(exchanges(known.world), known.first_failing is None)
                self.same(exchanges(known.world), len(known.lengths) == 1)

    def test_locks_exchange_at_every_lot(self):
        for known in oracle.known():
            if len(known.lots) <= 64:
                with self.subTest(name=known.name):
                    everywhere = all(exchanges_at(known.world, lot) for lot in known.lots)
                    self.same(exchanges(known.world), everywhere)

    def test_both_kinds_occur_often(self):
        many = [exchanges(known.world) for known in oracle.known()]
        self.assertGreater(many.count(True), 25)
        self.assertGreater(many.count(False), 25)
        held = {len(known.first_failing[0]) for known in oracle.known() if known.first_failing}
        self.assertLessEqual({0, 1}, held)

    def test_the_example(self):
        self.same(first_failing(EXAMPLE), ((), 0, 4))
        self.same(exchanges(EXAMPLE), False)

    def test_none(self):
        for world in (NOTHING, STILL, THREE, PAIRS, FOUR_HUNDRED, World(1), World(2, [(1, 0)])):
            self.same(first_failing(world), None)
            self.same(exchanges(world), True)
            self.same(lopsided_hold(world), None)

    def test_behind_held_points(self):
        for points, told, failing in [
            (8, [(1, 2, 3, 0, 5, 6, 7, 4), (2, 3, 0, 1, 7, 6, 5, 4)], ((4,), 0, 5)),
            (9, [(0, 1, 3, 2, 8, 6, 5, 7, 4), (4, 1, 5, 6, 8, 2, 3, 0, 7)], ((0, 4), 2, 7)),
            (11, [(2, 10, 1, 5, 4, 8, 6, 3, 7, 9, 0), (2, 1, 0, 8, 4, 7, 9, 5, 3, 6, 10)], ((0, 1, 2), 3, 6)),
        ]:
            world = World(points, told)
            self.same(oracle.Known("", world, points, told, world.made).first_failing, failing)
            self.same(first_failing(world), failing)

    def test_below_the_first_failing_every_order_is_as_good(self):
        # With fewer points locks exchange, so the least order of the held points ascends.
        for known in oracle.known():
            failing = first_failing(known.world)
            if failing is not None:
                self.same(failing[0], tuple(sorted(failing[0])))


class Holds(Case):

    def test_corpus(self):
        for known in oracle.known():
            if known.points <= 10:
                lopsided = None
                for point in range(known.points):
                    holds = least_holds_words(known, point)
                    with self.subTest(name=known.name, point=point):
                        self.same(least_holds(known.world, point), holds)
                    for lot in holds if lopsided is None else []:
                        for x in lot:
                            rest = tuple(other for other in lot if other != x)
                            if lopsided is None and x not in known.shut(rest + (point,)):
                                lopsided = (point, lot, x)
                with self.subTest(name=known.name):
                    self.same(lopsided_hold(known.world), lopsided)

    def test_lopsided_holds_and_failing_pairs(self):
        for known in oracle.known():
            with self.subTest(name=known.name):
                found = lopsided_hold(known.world)
                self.same(found is None, known.first_failing is None)
                if found is not None:
                    p, lot, x = found
                    rest = tuple(other for other in lot if other != x)
                    self.assertIn((x, p), failing_pairs(known.world, rest))
                    self.assertIn(lot, least_holds(known.world, p))

    def test_some(self):
        self.same(least_holds(EXAMPLE, 4), [(0,), (1,), (2,), (3,), (5,)])
        self.same(least_holds(EXAMPLE, 0), [(1,), (2,), (3,)])
        self.same(least_holds(THREE, 0), [(1, 2)])
        self.same(least_holds(PAIRS, 11), [(10,)])
        self.same(lopsided_hold(EXAMPLE), (4, (0,), 0))

    def test_a_point_that_nothing_moves(self):
        for point in range(3):
            self.same(least_holds(STILL, point), [()])
        self.same(least_holds(World(4, [(1, 0, 2, 3)]), 3), [()])
        self.same(least_holds(FOUR_HUNDRED, 10), [()])

    def test_a_point_that_no_others_hold(self):
        self.same(least_holds(World(2, [(1, 0)]), 0), [(1,)])
        self.same(least_holds(World(4, [(1, 0, 3, 2), (1, 0, 2, 3)]), 0), [(1,)])

    def test_least_holds_with_unlike_numbers_of_points(self):
        world = World(8, [(1, 0, 2, 3, 5, 4, 7, 6), (0, 1, 3, 2, 5, 4, 6, 7)])
        known = oracle.Known("", world, 8, world.told, world.made)
        for point in range(8):
            self.same(least_holds(world, point), least_holds_words(known, point))
        self.same(least_holds(world, 0), [(1,), (6,), (7,), (2, 4), (2, 5), (3, 4), (3, 5)])

    def test_wrong_points(self):
        self.check_point_argument(lambda point: least_holds(EXAMPLE, point), 6)
        for value in NOT_WHOLE + [0, 1]:
            self.refused(NotAPoint(value), least_holds, NOTHING, value)

    def test_new_lists(self):
        least_holds(EXAMPLE, 4).clear()
        self.same(len(least_holds(EXAMPLE, 4)), 5)


class Arguments(Case):

    def test_what_is_passed_stays(self):
        held, lot = [4, 0], [5, 4, 5]
        failed_condition(EXAMPLE, held, 0, 4)
        for call in (failing_pairs, exchanges_at, overlapping_lots):
            call(EXAMPLE, lot)
        value = ([], 0, 4)
        is_failing(EXAMPLE, value)
        empty = []
        failing_from(EXAMPLE, empty, 0, 4)
        self.same((held, lot, value, empty), ([4, 0], [5, 4, 5], ([], 0, 4), []))


if __name__ == "__main__":
    unittest.main()
