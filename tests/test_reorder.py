"""Bad orders, lean rows, and when order matters (points 46 to 49)."""

import itertools
import random
import unittest

from heldorder.errors import NotAFailing, NotAnOrder, NotAPoint, NotFull, NotTight, TooMany
from heldorder.neighbours import two_rows
from heldorder.reorder import (
    bad_order, count_tight_orders, every_order_tight, first_bad_order, is_bad_order, order_from_failing, order_matters,
    shorter_from_order,
)
from heldorder.rows import is_lean
from heldorder.worlds import World
from tests import oracle
from tests.support import ANY_VALUES, Case, allow, by_told

EXAMPLE = World(6, [(1, 2, 3, 0, 5, 4)])
STILL = World(3)
NOTHING = World(0)
PAIRS = World(12, oracle.SIX_SWAPS)
FOUR_HUNDRED = World(12, oracle.FOUR_HUNDRED)

# All moves of four points beside four pairs: tight rows of seven points, in any order.
SEVEN = by_told(12, "(0 1)", "(0 1 2 3)", "(4 5)", "(6 7)", "(8 9)", "(10 11)")
# All moves of three points, twice, and two pairs that are exchanged with each other if 10 and 11 are exchanged.
TIED = by_told(12, "(0 1)", "(0 1 2)", "(3 4)", "(3 4 5)", "(6 7)", "(6 8)(7 9)(10 11)")


def is_order_words(known, row, other, index):
    """Whether the rows of points are a bad order, by the words of point 46."""
    return (
        row in known.full and sorted(row) == sorted(other) and 0 <= index < len(other)
        and other[index] in known.shut(other[:index])
    )


class Orders(Case):

    def rows(self, known, many=25):
        return known.full if len(known.full) <= many else random.Random(known.points).sample(known.full, many)

    def test_corpus(self):
        for known in oracle.known():
            for row in self.rows(known):
                orders = set(itertools.permutations(row))
                tight = [order for order in orders if known.is_tight(order)]
                needless = oracle.needless(known.made, row)
                with self.subTest(name=known.name, row=row):
                    for given in (row, list(row)):
                        self.same(count_tight_orders(known.world, given), len(tight))
                        self.same(every_order_tight(known.world, given), len(tight) == len(orders))
                        self.same(is_lean(known.world, given), len(tight) == len(orders))
                        if not needless:
                            self.same(bad_order(known.world, given), None)
                            continue
                        other = oracle.without(row, needless[0]) + (row[needless[0]],)
                        found = (row, other, len(row) - 1)
                        self.same(bad_order(known.world, given), found)
                        self.same(is_order_words(known, *found), True)
                        self.same(is_bad_order(known.world, found), True)

    def test_count_corpus(self):
        for known in oracle.known():
            chance = random.Random(known.points)
            for row in known.tight if len(known.tight) <= 40 else chance.sample(known.tight, 40):
                tight = [order for order in set(itertools.permutations(row)) if known.is_tight(order)]
                with self.subTest(name=known.name, row=row):
                    self.same(count_tight_orders(known.world, row), len(tight))
                    self.same(count_tight_orders(known.world, list(row)), len(tight))

    def test_some(self):
        self.same(every_order_tight(EXAMPLE, (2,)), True)
        self.same(every_order_tight(EXAMPLE, [4, 0]), False)
        self.same(bad_order(EXAMPLE, [4, 0]), ((4, 0), (0, 4), 1))
        self.same(bad_order(EXAMPLE, (2,)), None)
        self.same(count_tight_orders(EXAMPLE, (4, 0)), 1)
        self.same(count_tight_orders(EXAMPLE, [4]), 1)
        self.same(count_tight_orders(EXAMPLE, ()), 1)
        self.same(count_tight_orders(PAIRS, (0, 3, 4, 7, 8)), 120)
        self.same(every_order_tight(FOUR_HUNDRED, (0, 5, 1, 6)), True)
        for world in (STILL, NOTHING):
            self.same(every_order_tight(world, ()), True)
            self.same(bad_order(world, []), None)
            self.same(count_tight_orders(world, []), 1)

    def test_rows_of_seven_points(self):
        row = (0, 1, 2, 4, 6, 8, 10)
        self.same(len(SEVEN), 384)
        self.same(every_order_tight(SEVEN, row), True)
        self.same(bad_order(SEVEN, row), None)
        self.same(count_tight_orders(SEVEN, row), 5040)
        self.same(count_tight_orders(SEVEN, list(row[::-1])), 5040)
        row = (0, 10, 1, 6, 3, 8, 4)
        self.same(len(TIED), 288)
        self.same(every_order_tight(TIED, row), False)
        self.same(bad_order(TIED, row), (row, (0, 1, 6, 3, 8, 4, 10), 6))
        # The point 10 must stand in front of both 6 and 8: it does in every third order.
        self.same(count_tight_orders(TIED, row), 1680)
        known = oracle.Known("tied", TIED, 12, TIED.told, TIED.made)
        self.same(sum(known.is_tight(order) for order in itertools.permutations(row)), 1680)

    def test_rows_of_eight_points_are_refused(self):
        # Eight steps would need as many made moves as no world of 12 points has.
        self.refused(NotTight(7), count_tight_orders, SEVEN, (0, 1, 2, 4, 6, 8, 10, 3))
        self.refused(NotTight(3), count_tight_orders, SEVEN, [0, 1, 2, 3, 4, 6, 8, 10])
        self.refused(NotTight(7), count_tight_orders, TIED, (0, 10, 1, 6, 3, 8, 4, 5))

    def test_refusals_in_order(self):
        for call in (every_order_tight, bad_order):
            self.refused(NotTight(1), call, EXAMPLE, (0, 4))
            self.refused(NotTight(1), call, EXAMPLE, [4, 5])
            self.refused(NotTight(1), call, EXAMPLE, [4] * 24)
            self.refused(NotFull(0), call, EXAMPLE, (4,))
            self.refused(NotFull(0), call, EXAMPLE, ())
            self.refused(NotFull(2), call, PAIRS, (0, 4, 6, 8, 10))
            self.refused(NotTight(0), call, STILL, [1])
        self.refused(NotTight(1), count_tight_orders, EXAMPLE, (0, 4))
        self.refused(NotTight(1), count_tight_orders, EXAMPLE, [4, 4])
        self.refused(NotTight(0), count_tight_orders, STILL, [2])

    def test_wrong_rows(self):
        for call in (every_order_tight, bad_order, count_tight_orders):
            checked = allow(call, NotTight, NotFull)
            for world in (EXAMPLE, FOUR_HUNDRED):
                self.check_row_argument(lambda row: checked(world, row), world.points)
            self.refused(NotAPoint(6), call, EXAMPLE, [0, 0, 6])
            self.refused(TooMany("row", 24), call, EXAMPLE, [0] * 25)


class Judged(Case):

    def test_corpus(self):
        right = 0
        for known in oracle.known():
            chance = random.Random(known.points)
            for _ in range(40):
                row = chance.choice(known.full if chance.randrange(8) else known.tight)
                other = tuple(chance.sample(row, len(row)))
                if not chance.randrange(8) and other:
                    other = other[1:] + (chance.choice(row),)
                for index in range(-1, len(row) + 1):
                    expected = is_order_words(known, row, other, index)
                    right += expected
                    value = (row, other, index)
                    with self.subTest(name=known.name, value=value):
                        self.same(is_bad_order(known.world, value), expected)
                        if expected:
                            shorter = known.tight_part(other)
                            self.same(shorter_from_order(known.world, value), shorter)
                            self.assertIn(shorter, known.full)
                            self.assertLess(len(shorter), len(row))
                        else:
                            self.refused(NotAnOrder(), shorter_from_order, known.world, value)
        self.assertGreater(right, 100)

    def test_some(self):
        self.same(is_bad_order(EXAMPLE, ((4, 0), (0, 4), 1)), True)
        self.same(shorter_from_order(EXAMPLE, ((4, 0), (0, 4), 1)), (0,))
        for value in [
            ([4, 0], (0, 4), 1), ((4, 0), [0, 4], 1), [(4, 0), (0, 4), 1], ((4, 0), (0, 4), True), ((4, 0), (0, 4), 0),
            ((4, 0), (0, 4), -1), ((4, 0), (0, 4), 2), ((4, 0), (4, 0), 1), ((4, 0), (0, 5), 1), ((4, 0), (False, 4), 1),
            ((4, False), (0, 4), 1), ((4, 1), (True, 4), 1), ((0, 4), (0, 4), 1), ((4, 0), (0, 0, 4), 2),
            ((4, 0), (0,), 0), ((4, 0), (0, 4)), ((4, 0), (0, 4), 1, 1), ((4,), (4,), 0), ((4, 0), (0, 4), None),
            ((0,) * 24, (0,) * 24, 1), ((0,) * 25, (0,) * 25, 1), ((4, 0), None, 1), (None, (0, 4), 1),
            ((4, 0), (0, 4, None), 1), ((4, 0), ("0", 4), 1), ((), (), 0), ((4, 0), (0, (4,)), 1), "401",
            ((4, 0), (0, 4), (1,)), ((4, 0), (6, 4), 1),
        ]:
            with self.subTest(value=value):
                self.same(is_bad_order(EXAMPLE, value), False)
                self.refused(NotAnOrder(), shorter_from_order, EXAMPLE, value)
        self.same(is_bad_order(EXAMPLE, ((4, 1), (1, 4), 1)), True)

    def test_all_loose_points_are_left_out(self):
        # Two examples side by side: both points 4 and 10 are loose behind the others.
        world = by_told(12, "(0 1 2 3)(4 5)", "(6 7 8 9)(10 11)")
        value = ((4, 0, 10, 6), (0, 4, 6, 10), 1)
        self.same(is_bad_order(world, value), True)
        self.same(shorter_from_order(world, value), (0, 6))
        self.same(shorter_from_order(world, value[:2] + (3,)), (0, 6))

    def test_any_value(self):
        for world in (EXAMPLE, STILL, NOTHING, FOUR_HUNDRED):
            self.check_judged_argument(lambda value: is_bad_order(world, value))
            for value in ANY_VALUES:
                self.refused(NotAnOrder(), shorter_from_order, world, value)


class Worlds(Case):

    def test_corpus(self):
        for known in oracle.known():
            with self.subTest(name=known.name):
                self.same(order_matters(known.world), len(known.lengths) > 1)
                failing = known.first_failing
                expected = None if failing is None else order_from_failing(known.world, failing)
                self.same(first_bad_order(known.world), expected)

    def test_every_order_of_every_row(self):
        for known in oracle.known():
            if len(known.full) <= 60:
                with self.subTest(name=known.name):
                    every = all(every_order_tight(known.world, row) for row in known.full)
                    self.same(order_matters(known.world), not every)

    def test_order_from_failing_corpus(self):
        for known in oracle.known():
            for held in known.tight[:30]:
                for failing in [(held, p, q) for p, q in known.pairs(held)]:
                    with self.subTest(name=known.name, failing=failing):
                        longer, shorter = two_rows(known.world, failing)
                        other = held + failing[1:] + longer[len(held) + 2:]
                        found = (longer, other, len(held) + 1)
                        self.same(order_from_failing(known.world, failing), found)
                        self.same(is_order_words(known, *found), True)
                        self.same(is_bad_order(known.world, found), True)
                        self.assertIn(shorter_from_order(known.world, found), known.full)

    def test_some(self):
        self.same(order_matters(EXAMPLE), True)
        self.same(first_bad_order(EXAMPLE), ((4, 0), (0, 4), 1))
        self.same(order_from_failing(EXAMPLE, ((), 3, 5)), ((5, 3), (3, 5), 1))
        for world in (STILL, NOTHING, PAIRS, FOUR_HUNDRED):
            self.same(order_matters(world), False)
            self.same(first_bad_order(world), None)

    def test_not_a_failing(self):
        self.refused(NotAFailing(1), order_from_failing, EXAMPLE, ((4, 5), 0, 1))
        self.refused(NotAFailing(2), order_from_failing, EXAMPLE, ((4,), 0, 5))
        self.refused(NotAFailing(3), order_from_failing, EXAMPLE, ((), 4, 0))
        self.refused(NotAFailing(4), order_from_failing, EXAMPLE, ((), 0, 1))
        self.refused(NotAFailing(1), order_from_failing, EXAMPLE, ((4,) * 24, 0, 1))
        self.refused(NotAFailing(0), order_from_failing, EXAMPLE, ((4,) * 25, 0, 1))
        self.refused(NotAFailing(0), order_from_failing, EXAMPLE, ([], 0, 4))
        self.refused(NotAFailing(0), order_from_failing, EXAMPLE, ((), False, 4))
        for world in (EXAMPLE, STILL, NOTHING):
            for value in ANY_VALUES:
                with self.subTest(value=repr(value)[:60]):
                    self.refused(NotAFailing(0), order_from_failing, world, value)

    def test_what_is_passed_stays(self):
        row = [4, 0]
        for call in (every_order_tight, bad_order, count_tight_orders):
            call(EXAMPLE, row)
        self.same(row, [4, 0])


if __name__ == "__main__":
    unittest.main()
