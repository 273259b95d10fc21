"""Base lots, lean lots, base paths, inner lengths and ranks (points 50 to 53)."""

import itertools
import random
import unittest

from heldorder.bases import (
    base_lots, base_path, exchange_point, inner_lengths, is_base_lot, is_base_path, lean_lots, rank, rank_defect,
    rank_levels,
)
from heldorder.closure import closure
from heldorder.errors import NotABase, NotAPoint, NotInside, OrderMatters, TooMany
from heldorder.stretch import lengths
from heldorder.worlds import World
from tests import oracle
from tests.support import Case, allow, by_told, still

EXAMPLE = World(6, [(1, 2, 3, 0, 5, 4)])
THREE = World(3, [(1, 0, 2), (0, 2, 1)])
STILL = World(3)
NOTHING = World(0)
PAIRS = World(12, oracle.SIX_SWAPS)
FOUR_HUNDRED = World(12, oracle.FOUR_HUNDRED)
TRIPLES = by_told(7, "(0 1)", "(0 1 2 3)", "(4 5)")


def base_words(known):
    return oracle.lot_order({tuple(sorted(row)) for row in known.full})


def inner_words(known, lot):
    """The inner lengths by the words of point 52: rows of points of the lot, tight, with its closure."""
    rows = [()]
    found = set()
    while rows:
        found |= {len(row) for row in rows if known.shut(row) == known.shut(lot)}
        # Of rows with equal lots one is enough.
        rows = {tuple(sorted(row + (p,))): row + (p,) for row in rows for p in lot if p not in known.shut(row)}.values()
    return sorted(found)


def exchanged_words(bases, first, second, point):
    for q in sorted(set(second) - set(first)):
        if tuple(sorted(set(first) - {point} | {q})) in bases:
            return q
    return None


def path_words(bases, first, second):
    path = [tuple(sorted(set(first)))]
    while set(path[-1]) - set(second):
        p = min(set(path[-1]) - set(second))
        q = exchanged_words(bases, path[-1], second, p)
        path.append(tuple(sorted(set(path[-1]) - {p} | {q})))
    return path


def is_path_words(bases, first, second, lots):
    """Whether the tuples of points are a base path, by the words of point 51."""
    if not lots or set(lots[0]) != set(first) or set(lots[-1]) != set(second) or any(lot not in bases for lot in lots):
        return False
    return all(
        after in [tuple(sorted(set(lot) - {p} | {q})) for p in set(lot) - set(second) for q in set(second) - set(lot)]
        for lot, after in zip(lots, lots[1:])
    )


class Lots(Case):

    def test_corpus(self):
        for seed, known in enumerate(oracle.known()):
            bases = base_words(known)
            full = [set(lot) for lot in known.lots if known.is_full(lot)]
            lean = [tuple(sorted(lot)) for lot in full if not any(other < lot for other in full)]
            with self.subTest(name=known.name):
                self.same(base_lots(known.world), bases)
                self.same(lean_lots(known.world), lean)
                self.assertLessEqual(set(lean), set(bases))
                self.same(bases == lean, known.first_failing is None)
                self.same(len(bases[0]), known.lengths[0])
            chance = random.Random(seed)
            for lot in chance.sample(known.lots, min(40, len(known.lots))) + bases[:20]:
                for given in (lot, oracle.muddled(lot, seed)):
                    with self.subTest(name=known.name, lot=given):
                        self.same(is_base_lot(known.world, given), lot in bases)

    def test_some(self):
        self.same(lean_lots(EXAMPLE), [(0,), (1,), (2,), (3,)])
        self.same(base_lots(EXAMPLE), lean_lots(EXAMPLE) + [(p, q) for p in range(4) for q in (4, 5)])
        self.same(base_lots(THREE), [(0, 1), (0, 2), (1, 2)])
        self.same(len(base_lots(PAIRS)), 64)
        self.same(len(lean_lots(FOUR_HUNDRED)), 100)
        self.same(is_base_lot(EXAMPLE, [4, 0, 4]), True)
        self.same(is_base_lot(EXAMPLE, (0, 4)), True)
        self.same(is_base_lot(EXAMPLE, (0, 4, 5)), False)
        self.same(is_base_lot(EXAMPLE, (0, 1)), False)
        self.same(is_base_lot(EXAMPLE, (4,)), False)
        self.same(is_base_lot(EXAMPLE, ()), False)
        self.same(is_base_lot(PAIRS, [0, 2, 4, 6, 8, 10] * 4), True)
        for world in (STILL, NOTHING):
            self.same(base_lots(world), [()])
            self.same(lean_lots(world), [()])
            self.same(is_base_lot(world, []), True)
        self.same(is_base_lot(STILL, [1]), False)

    def test_wrong_lots(self):
        for call in (is_base_lot, inner_lengths, rank):
            for world in (THREE, FOUR_HUNDRED):
                self.check_row_argument(lambda lot: call(world, lot), world.points)
            self.refused(NotAPoint(0), call, NOTHING, [0])
            self.refused(TooMany("row", 24), call, NOTHING, [0] * 25)

    def test_new_lists(self):
        for call in (base_lots, lean_lots, rank_levels):
            call(THREE).clear()
            self.same(len(call(THREE)), 3)
        inner_lengths(EXAMPLE, (0, 4)).clear()
        self.same(inner_lengths(EXAMPLE, (0, 4)), [1, 2])


class Exchanged(Case):

    def test_corpus(self):
        for seed, known in enumerate(oracle.known()):
            bases = base_words(known)
            chance = random.Random(seed)
            for _ in range(12):
                first, second = chance.choice(bases), chance.choice(bases)
                for point in range(known.points):
                    told = (oracle.muddled(first, seed), oracle.muddled(second, seed), point)
                    with self.subTest(name=known.name, told=told):
                        if point not in first or point in second:
                            self.refused(NotInside(point), exchange_point, known.world, *told)
                            continue
                        found = exchanged_words(bases, first, second, point)
                        self.same(exchange_point(known.world, *told), found)
                        self.same(exchange_point(known.world, first, second, point), found)
                        if known.first_failing is None:
                            self.assertIsNotNone(found)

    def test_some(self):
        self.same(exchange_point(EXAMPLE, (0, 4), (1, 5), 4), 5)
        self.same(exchange_point(EXAMPLE, (0, 4), (1,), 4), None)
        self.refused(NotABase(1), exchange_point, EXAMPLE, [4, 0], [1, 2, 1], 4)
        self.same(exchange_point(EXAMPLE, (0, 4), (1, 5), 0), 1)
        self.same(exchange_point(EXAMPLE, [4, 0, 0], [5, 0], 4), 5)
        self.same(exchange_point(EXAMPLE, [0], [5, 1], 0), 1)
        self.same(exchange_point(THREE, (0, 1), (2, 1), 0), 2)

    def test_refusals_in_order(self):
        self.refused(NotABase(0), exchange_point, EXAMPLE, (4,), (4,), 5)
        self.refused(NotABase(0), exchange_point, EXAMPLE, (0, 1), (0, 1), 0)
        self.refused(NotABase(0), exchange_point, EXAMPLE, (), (0,), 0)
        self.refused(NotABase(1), exchange_point, EXAMPLE, (4, 0), (5,), 1)
        self.refused(NotABase(1), exchange_point, EXAMPLE, (0,), [], 1)
        self.refused(NotInside(1), exchange_point, EXAMPLE, (0,), (1,), 1)
        self.refused(NotInside(5), exchange_point, EXAMPLE, (0, 4), (1,), 5)
        self.refused(NotInside(4), exchange_point, EXAMPLE, (0, 4), (4, 1), 4)
        self.refused(NotInside(0), exchange_point, EXAMPLE, (0,), (0,), 0)
        self.refused(NotInside(0), exchange_point, STILL, (), (), 0)

    def test_wrong_arguments(self):
        call = allow(exchange_point, NotABase, NotInside)
        self.check_row_argument(lambda lot: call(EXAMPLE, lot, (0,), 0), 6)
        self.check_row_argument(lambda lot: call(EXAMPLE, (0,), lot, 0), 6)
        self.check_point_argument(lambda point: call(EXAMPLE, (0,), (1,), point), 6)
        self.refused(NotAPoint(6), exchange_point, EXAMPLE, [6], [0] * 25, 7)
        self.refused(TooMany("row", 24), exchange_point, EXAMPLE, [4], [0] * 25, 7)
        self.refused(NotAPoint(7), exchange_point, EXAMPLE, [4], [4], 7)


class Paths(Case):

    def test_corpus(self):
        for seed, known in enumerate(oracle.known()):
            bases = base_words(known)
            chance = random.Random(seed)
            for _ in range(8):
                first, second = chance.choice(bases), chance.choice(bases)
                given = (oracle.muddled(first, seed), oracle.muddled(second, seed))
                with self.subTest(name=known.name, first=first, second=second):
                    if known.first_failing is not None:
                        self.refused(OrderMatters(known.first_failing), base_path, known.world, *given)
                        self.refused(OrderMatters(known.first_failing), base_path, known.world, first, first)
                        continue
                    path = path_words(bases, first, second)
                    self.same(base_path(known.world, first, second), path)
                    self.same(base_path(known.world, *given), path)
                    self.assertEqual(len(path), len(set(first) - set(second)) + 1)
                    self.same(is_base_path(known.world, first, second, path), True)
                    self.same(is_base_path(known.world, *given, tuple(path)), True)

    def test_some(self):
        self.same(base_path(THREE, (0, 1), (2, 1)), [(0, 1), (1, 2)])
        self.same(base_path(THREE, [1, 0, 1], [0, 1]), [(0, 1)])
        self.same(base_path(STILL, [], ()), [()])
        self.same(base_path(NOTHING, (), ()), [()])
        self.same(len(base_path(PAIRS, range_of(0), range_of(1))), 7)
        self.same(base_path(PAIRS, range_of(0), range_of(1))[1], (1, 2, 4, 6, 8, 10))
        self.same(base_path(TRIPLES, (0, 1, 2, 4), (1, 2, 3, 5)), [(0, 1, 2, 4), (1, 2, 3, 4), (1, 2, 3, 5)])

    def test_refusals_in_order(self):
        first = ((), 0, 4)
        self.refused(NotABase(0), base_path, EXAMPLE, (4,), (4,))
        self.refused(NotABase(1), base_path, EXAMPLE, (0,), (4,))
        self.refused(NotABase(0), base_path, THREE, (0,), (0,))
        self.refused(NotABase(1), base_path, THREE, (0, 1), (0,))
        self.refused(OrderMatters(first), base_path, EXAMPLE, (0,), (1,))
        self.refused(OrderMatters(first), base_path, EXAMPLE, (0,), [0, 0])
        call = allow(base_path, NotABase, OrderMatters)
        self.check_two_row_arguments(lambda one, other: call(EXAMPLE, one, other), 6)
        self.check_two_row_arguments(lambda one, other: call(PAIRS, one, other), 12)

    def test_judged_corpus(self):
        right = 0
        for seed, known in enumerate(oracle.known()):
            bases = base_words(known)
            chance = random.Random(seed)
            for _ in range(30):
                second = chance.choice(bases)
                lots = [chance.choice(bases)]
                # Any point may be replaced at each step, as long as base lots come of it.
                free = not chance.randrange(3)
                while len(lots) < 6:
                    steps = [
                        lot for lot in bases if len(lot) == len(lots[-1]) and len(set(lot) - set(lots[-1])) == 1
                        and (free or not set(lots[-1]) - set(lot) <= set(second))
                        and set(lot) - set(lots[-1]) <= set(second)
                    ]
                    if not steps or free and lots[-1] == second:
                        break
                    lots.append(chance.choice(steps))
                at = chance.randrange(len(lots))
                for value in (
                    lots, lots[1:], lots[:-1], lots[::-1], lots[:at] + [chance.choice(bases)] + lots[at + 1:],
                    lots[:at + 1] + lots[at:], lots[:at] + [lots[at][::-1]] + lots[at + 1:], lots + [second],
                ):
                    expected = is_path_words(bases, lots[0], second, value)
                    right += expected and len(value) > 1
                    with self.subTest(name=known.name, second=second, value=value):
                        self.same(is_base_path(known.world, lots[0], second, value), expected)
                        self.same(is_base_path(known.world, lots[0][::-1] * 2, list(second), tuple(value)), expected)
        self.assertGreater(right, 200)

    def test_judged_some(self):
        self.same(is_base_path(EXAMPLE, (0,), [1, 1], [(0,), (1,)]), True)
        self.same(is_base_path(EXAMPLE, (0,), (0,), ((0,),)), True)
        self.same(is_base_path(EXAMPLE, (0, 4), (1, 5), [(0, 4), (1, 4), (1, 5)]), True)
        self.same(is_base_path(EXAMPLE, (0, 4), (1, 5), [(0, 4), (0, 5), (1, 5)]), True)
        self.same(is_base_path(EXAMPLE, (0, 4), (1, 5), [(0, 4), (1, 5)]), False)
        self.same(is_base_path(EXAMPLE, (0, 4), (1, 5), [(0, 4), (2, 4), (1, 4), (1, 5)]), False)
        self.same(is_base_path(EXAMPLE, (0, 4), (1,), [(0, 4), (1, 4), (1,)]), False)
        # A point of the second lot is never replaced, not even by another one of its points.
        self.same(is_base_path(THREE, (0, 2), (1, 2), [(0, 2), (0, 1), (1, 2)]), False)
        self.same(is_base_path(THREE, (0, 2), (1, 2), [(0, 2), (1, 2)]), True)
        self.same(is_base_path(EXAMPLE, (4,), (4,), [(4,)]), False)
        self.same(is_base_path(EXAMPLE, (0, 1), (0, 1), [(0, 1)]), False)
        for value in [
            [], (), [[0], [1]], [(0,), [1]], [(0,)], [(1,)], [(1,), (0,)], [(0,), (2,), (1,)], [(0,), (0,), (1,)],
            [(0,), (1,), (1,)], [(0,), (True,)], [(False,), (1,)], [(0,), (1,), None], [(0,), (1, 1)], [(0,), 1], "01",
            [(0,), (1, 4)], [(0,), (6,), (1,)], (0, 1), [(0,) * 25, (1,)], [((0,), (1,))], [(0,), (1,)] * 4,
        ]:
            with self.subTest(value=value):
                self.same(is_base_path(EXAMPLE, (0,), (1,), value), False)
        self.same(is_base_path(EXAMPLE, (0, 4), (0, 4), [(4, 0)]), False)
        self.same(is_base_path(EXAMPLE, (4, 0), (4, 0), [(0, 4)]), True)
        for world in (STILL, NOTHING):
            self.same(is_base_path(world, [], [], [()]), True)
            self.same(is_base_path(world, [], [], []), False)
            self.same(is_base_path(world, [], [], [(), ()]), False)
            self.same(is_base_path(world, [], [], [[]]), False)
        self.same(is_base_path(STILL, [1], [], [()]), False)

    def test_any_value(self):
        self.check_judged_argument(lambda value: is_base_path(EXAMPLE, (0, 4), (1, 5), value))
        self.check_judged_argument(lambda value: is_base_path(EXAMPLE, (0,), (0,), value), but=[((0,),)])
        self.check_judged_argument(lambda value: is_base_path(EXAMPLE, (), (), value))
        self.check_judged_argument(lambda value: is_base_path(FOUR_HUNDRED, (0, 1, 5, 6), (0,), value))
        self.check_judged_argument(lambda value: is_base_path(STILL, (), (), value), but=[[()], ((),)])
        call = allow(is_base_path)
        self.check_two_row_arguments(lambda first, second: call(EXAMPLE, first, second, None), 6)
        self.check_two_row_arguments(lambda first, second: call(EXAMPLE, first, second, [(0,)]), 6)


class Ranks(Case):

    def test_inner_lengths_corpus(self):
        for seed, known in enumerate(oracle.known()):
            for lot in known.lots_to_try(48):
                expected = inner_words(known, lot)
                for given in (lot, oracle.muddled(lot, seed)):
                    with self.subTest(name=known.name, lot=given):
                        found = inner_lengths(known.world, given)
                        self.same(found, expected)
                        self.same(found, list(range(found[0], found[-1] + 1)))
                        if known.first_failing is None:
                            self.same(found, [rank(known.world, given)])
                        else:
                            self.refused(OrderMatters(known.first_failing), rank, known.world, given)
            with self.subTest(name=known.name):
                self.same(inner_lengths(known.world, still(known.points)), lengths(known.world))

    def test_ranks_corpus(self):
        for seed, known in enumerate(oracle.known()):
            if known.first_failing is not None:
                self.refused(OrderMatters(known.first_failing), rank_levels, known.world)
                self.refused(OrderMatters(known.first_failing), rank_defect, known.world, (), [])
                continue
            chance = random.Random(seed)
            ranks = {}
            for lot in known.lots:
                ranks[lot] = max(
                    (ranks[lot[:i] + lot[i + 1:]] for i in range(len(lot))), default=0
                )
                if lot and all(lot[i] not in known.shut(lot[:i] + lot[i + 1:]) for i in range(len(lot))):
                    ranks[lot] = len(lot)
            with self.subTest(name=known.name):
                tops = [ranks[lot] for lot in known.closed]
                self.same(rank_levels(known.world), [tops.count(r) for r in range(max(tops) + 1)])
            for lot in known.lots_to_try(24):
                other = chance.choice(known.lots)
                union, common = tuple(sorted(set(lot) | set(other))), tuple(sorted(set(lot) & set(other)))
                with self.subTest(name=known.name, lot=lot, other=other):
                    self.same(rank(known.world, lot), ranks[lot])
                    self.assertLessEqual(ranks[lot], len(lot))
                    self.assertLessEqual(ranks[common], ranks[lot])
                    defect = ranks[lot] + ranks[other] - ranks[union] - ranks[common]
                    self.assertGreaterEqual(defect, 0)
                    self.same(rank_defect(known.world, lot, other), defect)
                    self.same(rank_defect(known.world, oracle.muddled(other, seed), list(lot)), defect)
                    held = [p for p in range(known.points) if ranks[tuple(sorted({*lot, p}))] == ranks[lot]]
                    self.same(closure(known.world, lot), tuple(held))

    def test_some(self):
        self.same(inner_lengths(EXAMPLE, ()), [0])
        self.same(inner_lengths(EXAMPLE, [5, 4]), [1])
        self.same(inner_lengths(EXAMPLE, [5, 0]), [1, 2])
        self.same(inner_lengths(EXAMPLE, [1, 0, 0]), [1])
        self.same(inner_lengths(EXAMPLE, range_of(0)[:3]), [1, 2])
        self.same(inner_lengths(STILL, [1, 2]), [0])
        self.same(rank(THREE, []), 0)
        self.same(rank(THREE, [2, 2]), 1)
        self.same(rank(THREE, (0, 1, 2)), 2)
        self.same(rank(PAIRS, [0, 1, 2] * 8), 2)
        self.same(rank_defect(THREE, (0, 1), (1, 2)), 1)
        self.same(rank_defect(THREE, (0, 1), (0, 1)), 0)
        # What the lots have in common is meant of the lots themselves: their closures share points.
        self.same(rank_defect(PAIRS, (0,), (1,)), 1)
        self.same(rank_defect(PAIRS, (0, 2), (2, 5)), 0)
        self.same(rank_levels(THREE), [1, 3, 1])
        self.same(rank_levels(PAIRS), [1, 6, 15, 20, 15, 6, 1])
        self.same(rank_levels(FOUR_HUNDRED)[0], 1)
        for world in (STILL, NOTHING):
            self.same(rank_levels(world), [1])
            self.same(rank(world, ()), 0)
            self.same(rank_defect(world, (), []), 0)

    def test_order_matters(self):
        first = ((), 0, 4)
        self.refused(OrderMatters(first), rank, EXAMPLE, [])
        self.refused(OrderMatters(first), rank_defect, EXAMPLE, [4], [4])
        self.refused(OrderMatters(first), rank_levels, EXAMPLE)
        self.refused(NotAPoint(6), rank, EXAMPLE, [6])
        self.refused(NotAPoint(6), rank_defect, EXAMPLE, [0], [6])
        self.refused(TooMany("row", 24), rank_defect, EXAMPLE, [0] * 25, [6])
        call = allow(rank_defect, OrderMatters)
        self.check_two_row_arguments(lambda one, other: call(EXAMPLE, one, other), 6)
        self.check_two_row_arguments(lambda one, other: call(THREE, one, other), 3)

    def test_what_is_passed_stays(self):
        first, second = [1, 0, 0], [2, 1, 2]
        for call in (is_base_lot, inner_lengths, rank):
            call(THREE, first)
        exchange_point(THREE, first, second, 0)
        base_path(THREE, first, second).clear()
        is_base_path(THREE, first, second, [(0, 1), (1, 2)])
        rank_defect(THREE, first, second)
        self.same((first, second), ([1, 0, 0], [2, 1, 2]))
        self.same(len(base_path(THREE, first, second)), 2)


def range_of(start):
    return [start + 2 * index for index in range(6)]


class Matroids(Case):

    def test_base_lots_exchange(self):
        for known in oracle.known():
            bases = base_words(known)
            if known.first_failing is None and len(bases) <= 30:
                for first, second in itertools.product(bases, repeat=2):
                    for point in set(first) - set(second):
                        with self.subTest(name=known.name, first=first, second=second, point=point):
                            q = exchange_point(known.world, first, second, point)
                            self.assertIn(tuple(sorted(set(first) - {point} | {q})), bases)


if __name__ == "__main__":
    unittest.main()
