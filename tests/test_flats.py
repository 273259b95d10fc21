"""Closed lots, lots above, covers, joins, meets and chains (points 30, 32 and 33)."""

import random
import unittest

from heldorder.closure import closure, is_closed
from heldorder.errors import NotAChain, NotAPoint, NotTight, TooMany
from heldorder.flats import (
    chain_of_row, closed_lots, covers, height, is_chain, join_lots, longest_chain, lots_above, meet_lots, row_of_chain,
)
from heldorder.rows import is_full, is_tight
from heldorder.worlds import World
from tests import oracle
from tests.support import ANY_VALUES, Case, allow, still

EXAMPLE = World(6, [(1, 2, 3, 0, 5, 4)])
THREE = World(3, [(1, 0, 2), (0, 2, 1)])
FOUR_HUNDRED = World(12, oracle.FOUR_HUNDRED)
PAIRS = World(12, oracle.SIX_SWAPS)
NOTHING = World(0)
STILL = World(3)


def chain_words(known, lots):
    """Whether the tuples of points are a chain, by the words of point 33."""
    return bool(lots) and all(lot in known.closures and known.closures[lot] == lot for lot in lots) and (
        lots[0] == known.closures[()] and lots[-1] == still(known.points)
        and all(set(one) < set(other) for one, other in zip(lots, lots[1:]))
    )


def longest(known):
    """The greatest number of lots of a chain, by looking at all closed lots."""
    most = {}
    for lot in known.closed:
        most[lot] = 1 + max((most[other] for other in most if set(other) < set(lot)), default=0)
    return most[still(known.points)]


def some_chains(known, many):
    """Chains that leave out closed lots, drawn."""
    chance = random.Random(known.points)
    for _ in range(many):
        lots = [known.closures[()]]
        while len(lots[-1]) < known.points:
            lots.append(chance.choice([lot for lot in known.closed if set(lot) > set(lots[-1])]))
        yield lots


class Lots(Case):

    def test_closed_lots_corpus(self):
        for known in oracle.known():
            with self.subTest(name=known.name):
                self.same(closed_lots(known.world), known.closed)

    def test_above_and_covers_corpus(self):
        for seed, known in enumerate(oracle.known()):
            for lot in known.lots_to_try(64):
                closed = set(known.shut(lot))
                points = [p for p in range(known.points) if p not in closed]
                above = oracle.lot_order({known.shut(lot + (p,)) for p in points})
                larger = [set(other) for other in known.closed if set(other) > closed]
                least = [tuple(sorted(one)) for one in larger if not any(other < one for other in larger)]
                for given in (lot, oracle.muddled(lot, seed)):
                    with self.subTest(name=known.name, lot=given):
                        self.same(lots_above(known.world, given), above)
                        self.same(covers(known.world, given), oracle.lot_order(least))
                        self.assertLessEqual(set(covers(known.world, given)), set(above))

    def test_join_and_meet_corpus(self):
        for seed, known in enumerate(oracle.known()):
            chance = random.Random(seed)
            for lot in known.lots_to_try(24):
                for other in chance.sample(known.lots, min(4, len(known.lots))):
                    common = tuple(sorted(set(known.shut(lot)) & set(known.shut(other))))
                    for first, second in ((lot, other), (oracle.muddled(other, seed), oracle.muddled(lot, seed))):
                        with self.subTest(name=known.name, first=first, second=second):
                            self.same(join_lots(known.world, first, second), known.shut(lot + other))
                            self.same(meet_lots(known.world, first, second), common)
                            self.same(is_closed(known.world, common), True)

    def test_some(self):
        self.same(closed_lots(EXAMPLE), [(), (4, 5), (0, 1, 2, 3, 4, 5)])
        self.same(closed_lots(THREE), [(), (0,), (1,), (2,), (0, 1, 2)])
        self.same(lots_above(EXAMPLE, []), [(4, 5), (0, 1, 2, 3, 4, 5)])
        self.same(covers(EXAMPLE, ()), [(4, 5)])
        self.same(covers(EXAMPLE, [5, 4, 5]), [(0, 1, 2, 3, 4, 5)])
        self.same(lots_above(EXAMPLE, (0,)), [])
        self.same(covers(EXAMPLE, [0] * 24), [])
        self.same(lots_above(THREE, ()), [(0,), (1,), (2,)])
        self.same(join_lots(THREE, (0,), [2]), (0, 1, 2))
        self.same(join_lots(THREE, (), []), ())
        self.same(meet_lots(THREE, (0, 1), (0,)), (0,))
        self.same(meet_lots(EXAMPLE, [4], [0]), (4, 5))
        self.same(meet_lots(EXAMPLE, [], [0]), ())

    def test_nothing_and_still(self):
        for world, whole in ((NOTHING, ()), (STILL, (0, 1, 2))):
            self.same(closed_lots(world), [whole])
            self.same(lots_above(world, ()), [])
            self.same(covers(world, []), [])
            self.same(join_lots(world, (), ()), whole)
            self.same(meet_lots(world, [], []), whole)

    def test_twenty_four_entries(self):
        self.same(join_lots(PAIRS, [0, 2] * 12, (4, 6) * 12), tuple(range(8)))
        self.same(meet_lots(PAIRS, [0, 2] * 12, (3, 6) * 12), (2, 3))
        self.same(len(lots_above(FOUR_HUNDRED, [10] * 24)), 10)

    def test_wrong_lots(self):
        for call in (lots_above, covers):
            for world in (EXAMPLE, FOUR_HUNDRED):
                self.check_row_argument(lambda lot: call(world, lot), world.points)
            self.refused(NotAPoint(0), call, NOTHING, [0])
            self.refused(TooMany("row", 24), call, NOTHING, [0] * 25)
        for call in (join_lots, meet_lots):
            self.check_two_row_arguments(lambda first, second: call(EXAMPLE, first, second), 6)

    def test_new_lists(self):
        for call in (closed_lots, longest_chain):
            call(EXAMPLE).clear()
            self.same(len(call(EXAMPLE)), 3)
        for call in (lots_above, covers):
            call(EXAMPLE, ()).clear()
            self.assertTrue(call(EXAMPLE, ()))


class Chains(Case):

    def test_height_and_longest_chain_corpus(self):
        for known in oracle.known():
            with self.subTest(name=known.name):
                lots = longest_chain(known.world)
                self.assertIs(type(lots), list)
                self.same(chain_words(known, lots), True)
                self.same(len(lots), longest(known))
                self.same(height(known.world), len(lots) - 1)
                self.same(height(known.world), max(known.lengths))
                self.same(is_chain(known.world, lots), True)
                row = row_of_chain(known.world, lots)
                self.assertIn(row, known.full)

    def test_chains_corpus(self):
        for known in oracle.known():
            for lots in some_chains(known, 6):
                with self.subTest(name=known.name, lots=lots):
                    self.same(is_chain(known.world, lots), True)
                    self.same(is_chain(known.world, tuple(lots)), True)
                    row = tuple(min(set(new) - set(old)) for old, new in zip(lots, lots[1:]))
                    self.same(row_of_chain(known.world, lots), row)
                    self.same(row_of_chain(known.world, tuple(lots)), row)
                    self.same(known.is_tight(row), True)

    def test_spoilt_chains_corpus(self):
        for known in oracle.known():
            chance = random.Random(known.points)
            for lots in some_chains(known, 3):
                place = chance.randrange(len(lots))
                for spoilt in [
                    lots[1:], lots[:-1], lots[::-1], lots[:place] + lots[place + 1:], lots[:place] + lots[place:][:1] * 2,
                    lots[:place + 1] + lots[place:], lots[:place] + [chance.choice(known.lots)] + lots[place:],
                    lots[:place] + [chance.choice(known.closed)] + lots[place + 1:], lots + lots,
                    lots[:place] + [lots[place][::-1]] + lots[place + 1:],
                    lots[:place] + [lots[place][:1] + lots[place]] + lots[place + 1:],
                    lots[:place] + [lots[place][1:]] + lots[place + 1:],
                ]:
                    with self.subTest(name=known.name, lots=spoilt):
                        right = chain_words(known, spoilt)
                        self.same(is_chain(known.world, spoilt), right)
                        self.same(is_chain(known.world, tuple(spoilt)), right)
                        if not right:
                            self.refused(NotAChain(), row_of_chain, known.world, spoilt)

    def test_some(self):
        self.same(height(EXAMPLE), 2)
        self.same(longest_chain(EXAMPLE), [(), (4, 5), (0, 1, 2, 3, 4, 5)])
        self.same(height(PAIRS), 6)
        self.same(height(FOUR_HUNDRED), 4)
        self.same(row_of_chain(EXAMPLE, [(), (4, 5), still(6)]), (4, 0))
        self.same(row_of_chain(EXAMPLE, ((), still(6))), (0,))
        self.same(is_chain(THREE, [(), (1,), (0, 1, 2)]), True)
        self.same(is_chain(THREE, [(), (0, 1, 2)]), True)
        self.same(row_of_chain(THREE, [(), (1,), (0, 1, 2)]), (1, 0))
        self.same(row_of_chain(World(4, [(0, 2, 1, 3)]), [(0, 3), (0, 1, 2, 3)]), (1,))

    def test_nothing_and_still(self):
        for world, whole in ((NOTHING, ()), (STILL, (0, 1, 2))):
            self.same(height(world), 0)
            self.same(longest_chain(world), [whole])
            for kind in (list, tuple):
                self.same(is_chain(world, kind([whole])), True)
                self.same(row_of_chain(world, kind([whole])), ())
                self.same(is_chain(world, kind([])), False)
                self.same(is_chain(world, kind([whole, whole])), False)
                self.refused(NotAChain(), row_of_chain, world, kind([]))
            self.same(chain_of_row(world, ()), [whole])
        self.same(is_chain(STILL, [(), (0, 1, 2)]), False)
        self.same(is_chain(STILL, [(0, 1), (0, 1, 2)]), False)
        self.same(is_chain(NOTHING, [(0,)]), False)
        self.same(is_chain(NOTHING, [[]]), False)

    def test_wrong_lots_in_a_chain(self):
        for lots in [
            [(), (5, 4), still(6)], [(), (4, 4, 5), still(6)], [(), (4,), still(6)], [(), (0,), still(6)],
            [(), [4, 5], still(6)], [[], (4, 5), still(6)], [(), (4, 5), list(still(6))], [(), (), (4, 5), still(6)],
            [(), (4, 5), (4, 5), still(6)], [(), (4, 5), still(6), still(6)], [(4, 5), still(6)], [(), (4, 5)], [()],
            [still(6)], [(), still(6), (4, 5)], [(), (4, 5), still(7)], [(), (4, 5), (1, 2, 3, 4, 5)],
            [(), (4, 5), (False, True, 2, 3, 4, 5)], [(), (4, 5), (0, 1, 2, 3, 4, 5) * 4],
            [(), (4, 5), (0, 1, 2, 3, 4, 5) * 5], [(), (4, 5, None), still(6)], [(), "45", still(6)], [None, (4, 5)],
            [(), 4, still(6)], [(), (-2, -1), still(6)], [still(6), (4, 5), ()], [(), None, still(6)],
        ]:
            for kind in (list, tuple):
                with self.subTest(lots=lots):
                    self.same(is_chain(EXAMPLE, kind(lots)), False)
                    self.refused(NotAChain(), row_of_chain, EXAMPLE, kind(lots))
        self.same(is_chain(World(2, [(1, 0)]), [(), (False, True)]), False)
        self.same(is_chain(World(2, [(1, 0)]), [(), (0, 1)]), True)

    def test_any_value(self):
        for world in (EXAMPLE, THREE, STILL, FOUR_HUNDRED):
            self.check_judged_argument(lambda value: is_chain(world, value))
            for value in ANY_VALUES:
                self.refused(NotAChain(), row_of_chain, world, value)
        self.check_judged_argument(lambda value: is_chain(NOTHING, value), but=[[()], ((),)])
        self.check_judged_argument(lambda value: is_chain(World(1), value), but=[((0,),)])

    def test_chain_of_row_corpus(self):
        for known in oracle.known():
            for row in known.tight[:40] + known.tight[-10:]:
                with self.subTest(name=known.name, row=row):
                    lots = [known.shut(row[:length]) for length in range(len(row) + 1)]
                    self.same(chain_of_row(known.world, row), lots)
                    self.same(chain_of_row(known.world, list(row)), lots)
                    self.same(is_chain(known.world, lots), known.is_full(row))

    def test_chain_of_row_with_a_loose_index(self):
        for seed, known in enumerate(oracle.known()):
            for row in oracle.rows_to_try(known.points, seed, 5):
                loose = oracle.loose(known.made, row)
                if loose:
                    with self.subTest(name=known.name, row=row):
                        self.refused(NotTight(loose[0]), chain_of_row, known.world, row)
        self.refused(NotTight(1), chain_of_row, EXAMPLE, (0, 4, 0))
        self.refused(NotTight(0), chain_of_row, STILL, [2])
        self.same(chain_of_row(EXAMPLE, [4]), [(), (4, 5)])
        self.same(chain_of_row(EXAMPLE, ()), [()])

    def test_wrong_rows(self):
        self.check_row_argument(allow(lambda row: chain_of_row(EXAMPLE, row), NotTight), 6)
        self.refused(NotAPoint(6), chain_of_row, EXAMPLE, [0, 0, 6])
        self.refused(TooMany("row", 24), chain_of_row, EXAMPLE, [0] * 25)

    def test_what_is_passed_stays(self):
        lot, other, lots = [5, 4, 5], [0, 4], [(), (4, 5), still(6)]
        for call in (lots_above, covers):
            call(EXAMPLE, lot)
        for call in (join_lots, meet_lots):
            call(EXAMPLE, lot, other)
        is_chain(EXAMPLE, lots)
        row_of_chain(EXAMPLE, lots)
        row = [4, 0]
        chain_of_row(EXAMPLE, row).append(None)
        self.same((lot, other, lots, row), ([5, 4, 5], [0, 4], [(), (4, 5), still(6)], [4, 0]))

    def test_a_longest_chain_gives_a_full_row(self):
        for world in (FOUR_HUNDRED, PAIRS):
            lots = longest_chain(world)
            row = row_of_chain(world, lots)
            self.same((is_tight(world, row), is_full(world, row)), (True, True))
            self.same(chain_of_row(world, row), lots)
            self.same([closure(world, lot) for lot in lots], lots)


if __name__ == "__main__":
    unittest.main()
