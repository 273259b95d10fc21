"""The main facts of point 2, which hold for every world, over the whole program."""

import itertools
import random
import unittest

from heldorder.bases import base_lots
from heldorder.exchange import exchanges, failing_pairs, first_failing, is_failing
from heldorder.flats import closed_lots
from heldorder.listing import RowBook, count_full_rows
from heldorder.neighbours import find_failing, is_neighbour_pair, two_rows
from heldorder.papers import is_length_paper, is_verdict, length_paper, verdict
from heldorder.reorder import every_order_tight, order_matters
from heldorder.stretch import lengths, one_length
from tests import oracle
from tests.support import Case


def worlds():
    return [known.world for known in oracle.known() if count_full_rows(known.world) <= 2000]


def matroid_closed(points, bases):
    """The closed lots of the matroid with these bases: those to which no point can be added with the same rank."""
    lots = [set(lot) for size in range(points + 1) for lot in itertools.combinations(range(points), size)]
    rank = {frozenset(lot): max(len(lot & set(base)) for base in bases) for lot in lots}
    return [
        tuple(sorted(lot)) for lot in lots
        if all(rank[frozenset(lot | {p})] > rank[frozenset(lot)] for p in range(points) if p not in lot)
    ]


class Facts(Case):

    def test_no_length_between_is_missing(self):
        for world in worlds():
            found = RowBook(world).lengths
            self.same(found, list(range(found[0], found[-1] + 1)))
            self.same(lengths(world), found)
            self.same(is_length_paper(world, length_paper(world)), True)

    def test_one_length_if_every_order_is_tight_and_if_locks_exchange(self):
        met = {True: 0, False: 0}
        for world in worlds():
            one = one_length(world)
            met[one] += 1
            self.same(exchanges(world), one)
            self.same(order_matters(world), not one)
            self.same(all(every_order_tight(world, row) for row in RowBook(world)), one)
            self.same(all(not failing_pairs(world, lot) for lot in closed_lots(world)), one)
            self.same(first_failing(world) is None, one)
            self.same(verdict(world)[0], "one" if one else "many")
            self.same(is_verdict(world, verdict(world)), True)
        self.assertGreater(min(met.values()), 10)

    def test_if_locks_exchange_the_rows_are_the_bases_of_a_matroid(self):
        met = 0
        for world in worlds():
            if exchanges(world) and world.points <= 8:
                met += 1
                bases = base_lots(world)
                self.same(bases, sorted({tuple(sorted(row)) for row in RowBook(world)}))
                for one, other in itertools.product(bases[:12], repeat=2):
                    for p in set(one) - set(other):
                        swapped = [tuple(sorted(set(one) - {p} | {q})) for q in set(other) - set(one)]
                        self.assertTrue(any(lot in bases for lot in swapped))
                self.same(matroid_closed(world.points, bases), closed_lots(world))
        self.assertGreater(met, 20)

    def test_if_they_do_not_it_can_be_shown(self):
        for world in worlds():
            if not exchanges(world):
                longer, shorter = two_rows(world, first_failing(world))
                self.same(is_neighbour_pair(world, longer, shorter), True)
                rows = list(RowBook(world))
                chance = random.Random(len(rows))
                for _ in range(20):
                    first, second = chance.choice(rows), chance.choice(rows)
                    if len(first) != len(second):
                        self.same(is_failing(world, find_failing(world, first, second)), True)


if __name__ == "__main__":
    unittest.main()
