"""Least and greatest lengths and rows, greedy and lazy rows, bounds, short papers (points 44, 45, 62 and 63)."""

import itertools
import math
import unittest

from heldorder.errors import BadNumber, FullLot
from heldorder.extremes import (
    greatest_length, greatest_row, greedy_row, lazy_row, least_length, least_row, length_bounds, short_paper,
    shows_none_full,
)
from heldorder.makers import all_moves, cube_sides, ring, side_by_side
from heldorder.rows import is_full, is_tight
from heldorder.worlds import World
from tests import oracle
from tests.support import Case, still

EXAMPLE = World(6, [(1, 2, 3, 0, 5, 4)])
NOTHING = World(0)
STILL = World(3)


def by_orbits(known, better):
    """The row made by the rule, in which a point is better than another one by its orbit's size alone."""
    row = ()
    while not known.is_full(row):
        left = oracle.holders(known.made, row)
        sizes = [len({move[p] for move in left}) for p in range(known.points)]
        best = None
        for p in range(known.points):
            if sizes[p] > 1 and (best is None or better(sizes[p], sizes[best])):
                best = p
        row = row + (best,)
    return row


def reckoned_paper(known, size):
    """The short paper of least moves, or the first lot of this size that is full."""
    paper = []
    for lot in itertools.combinations(range(known.points), size):
        moves = [move for move in oracle.holders(known.made, lot) if move != still(known.points)]
        if not moves:
            return lot
        paper.append((lot, moves[0]))
    return paper


class Lengths(Case):

    def test_corpus(self):
        for known in oracle.known():
            low, high = known.lengths[0], known.lengths[-1]
            with self.subTest(name=known.name):
                self.same(least_length(known.world), low)
                self.same(greatest_length(known.world), high)
                self.same(least_row(known.world), min(row for row in known.full if len(row) == low))
                self.same(greatest_row(known.world), min(row for row in known.full if len(row) == high))

    def test_some(self):
        self.same((least_length(EXAMPLE), greatest_length(EXAMPLE)), (1, 2))
        self.same((least_row(EXAMPLE), greatest_row(EXAMPLE)), ((0,), (4, 0)))
        for world in (NOTHING, STILL):
            self.same((least_length(world), greatest_length(world)), (0, 0))
            self.same((least_row(world), greatest_row(world)), ((), ()))
        six = World(12, oracle.SIX_SWAPS)
        self.same((least_length(six), greatest_length(six), least_row(six)), (6, 6, (0, 2, 4, 6, 8, 10)))
        self.same(greatest_row(World(12, oracle.FOUR_HUNDRED)), (0, 1, 5, 6))


class ByOrbits(Case):

    def test_corpus(self):
        for known in oracle.known():
            with self.subTest(name=known.name):
                self.same(greedy_row(known.world), by_orbits(known, lambda one, other: one > other))
                self.same(lazy_row(known.world), by_orbits(known, lambda one, other: one < other))
                for row in (greedy_row(known.world), lazy_row(known.world)):
                    self.assertTrue(is_tight(known.world, row) and is_full(known.world, row))

    def test_some(self):
        self.same((greedy_row(EXAMPLE), lazy_row(EXAMPLE)), ((0,), (4, 0)))
        for world in (NOTHING, World(0, [()]), STILL, World(1)):
            self.same((greedy_row(world), lazy_row(world)), ((), ()))
        # Points that nothing moves are never taken, though their orbits are the least.
        held = World(5, [(0, 2, 1, 3, 4), (0, 1, 2, 4, 3)])
        self.same((greedy_row(held), lazy_row(held)), ((1, 3), (1, 3)))
        mixed = side_by_side(ring(2), side_by_side(ring(4), ring(3)))
        self.same((greedy_row(mixed), lazy_row(mixed)), ((2, 6, 0), (0, 6, 2)))
        self.same((greedy_row(all_moves(4)), lazy_row(all_moves(4))), ((0, 1, 2), (0, 1, 2)))
        self.same((greedy_row(cube_sides(3)), lazy_row(cube_sides(3))), ((0, 2, 4), (0, 2, 4)))

    def test_the_orbit_is_the_one_under_the_row(self):
        # Behind a lock in the ring of four the other points of the ring do not move any more.
        world = World(7, [(1, 2, 0, 3, 4, 5, 6), (0, 1, 2, 4, 5, 6, 3), (0, 1, 2, 3, 6, 5, 4)])
        self.same(greedy_row(world), (3, 0, 4))
        self.same(lazy_row(world), (0, 3, 4))


class Bounds(Case):

    def test_all(self):
        for points in range(13):
            for made in range(1, 401):
                high = max(k for k in range(10) if 2 ** k <= made)
                low = next((k for k in range(points + 1) if math.perm(points, k) >= made), points)
                self.same(length_bounds(points, made), (low, high))

    def test_some(self):
        self.same(length_bounds(0, 1), (0, 0))
        self.same(length_bounds(0, 2), (0, 1))
        self.same(length_bounds(0, 400), (0, 8))
        self.same(length_bounds(12, 1), (0, 0))
        self.same([length_bounds(5, made) for made in (2, 5, 6, 20, 21, 60, 61, 120, 121)], [
            (1, 1), (1, 2), (2, 2), (2, 4), (3, 4), (3, 5), (4, 5), (4, 6), (5, 6),
        ])
        self.same([length_bounds(12, made) for made in (12, 13, 132, 133, 400)], [
            (1, 3), (2, 3), (2, 7), (3, 7), (3, 8),
        ])
        self.same([length_bounds(12, made)[1] for made in (3, 4, 5, 127, 128, 129, 255, 256, 257)], [
            1, 2, 2, 6, 7, 7, 7, 8, 8,
        ])
        # The low number may be the greater one, and all points may be too few.
        self.same(length_bounds(3, 400), (3, 8))
        self.same(length_bounds(2, 3), (2, 1))
        self.same(length_bounds(1, 2), (1, 1))

    def test_all_lengths_lie_within(self):
        for known in oracle.known():
            low, high = length_bounds(known.points, len(known.made))
            self.assertTrue(all(low <= length <= high for length in known.lengths), known.name)

    def test_wrong_numbers(self):
        self.check_number_argument(lambda points: length_bounds(points, 5), 0, 12)
        self.check_number_argument(lambda made: length_bounds(5, made), 1, 400)
        self.refused(BadNumber(13, 0, 12), length_bounds, 13, 0)
        self.refused(BadNumber(0, 1, 400), length_bounds, 12, 0)


class ShortPapers(Case):

    def test_corpus(self):
        for known in oracle.known():
            for size in range(known.points + 1):
                paper = reckoned_paper(known, size)
                with self.subTest(name=known.name, size=size):
                    if isinstance(paper, tuple):
                        self.refused(FullLot(paper), short_paper, known.world, size)
                        self.same(shows_none_full(known.world, size, ()), False)
                    else:
                        self.same(short_paper(known.world, size), tuple(paper))
                        self.same(shows_none_full(known.world, size, tuple(paper)), True)
                        self.assertTrue(all(length > size for length in known.lengths))

    def test_some(self):
        self.same(short_paper(EXAMPLE, 0), (((), (1, 2, 3, 0, 5, 4)),))
        self.refused(FullLot((0,)), short_paper, EXAMPLE, 1)
        self.refused(FullLot((0, 1)), short_paper, EXAMPLE, 2)
        self.refused(FullLot((0, 1, 2, 3, 4, 5)), short_paper, EXAMPLE, 6)
        self.same(short_paper(all_moves(3), 1), (((0,), (0, 2, 1)), ((1,), (2, 1, 0)), ((2,), (1, 0, 2))))
        self.refused(FullLot(()), short_paper, NOTHING, 0)
        self.refused(FullLot(()), short_paper, STILL, 0)
        self.refused(FullLot((0,)), short_paper, STILL, 1)
        # The first full lot need not be the first lot.
        turned = World(6, [(1, 0, 3, 4, 5, 2)])
        self.refused(FullLot((2,)), short_paper, turned, 1)
        self.refused(FullLot((0, 2)), short_paper, turned, 2)

    def test_number(self):
        for world in (NOTHING, EXAMPLE, World(12)):
            self.check_size(lambda size: short_paper(world, size), world.points)
            self.check_size(lambda size: shows_none_full(world, size, ()), world.points)
        # The size comes first, the value raises nothing.
        self.refused(BadNumber(7, 0, 6), shows_none_full, EXAMPLE, 7, short_paper(EXAMPLE, 0))

    def check_size(self, call, points):
        def allowed(size):
            try:
                call(size)
            except FullLot:
                pass
        self.check_number_argument(allowed, 0, points)

    def test_any_value(self):
        for size in (0, 1, 2, 6):
            self.check_judged_argument(lambda value: shows_none_full(EXAMPLE, size, value))
        for world in (NOTHING, STILL):
            self.check_judged_argument(lambda value: shows_none_full(world, 0, value))
            self.same(shows_none_full(world, 0, (((), still(world.points)),)), False)

    def test_other_moves_may_show_it(self):
        world = all_moves(4)
        for moves in itertools.product(world.made, repeat=2):
            paper = list(short_paper(world, 1))
            paper[0], paper[3] = ((0,), moves[0]), ((3,), moves[1])
            right = moves[0][0] == 0 and moves[1][3] == 3 and still(4) not in moves
            self.same(shows_none_full(world, 1, tuple(paper)), right)
        for move in oracle.GIVEN["the example"][1][0], still(6), (2, 3, 0, 1, 4, 5), (3, 0, 1, 2, 5, 4):
            self.same(shows_none_full(EXAMPLE, 0, (((), move),)), move != still(6))

    def test_changed_papers(self):
        world = all_moves(4)
        paper = short_paper(world, 2)
        lot, move = paper[2]
        self.same((lot, move), ((0, 3), (0, 2, 1, 3)))
        self.same(shows_none_full(world, 2, paper), True)
        wrong = [
            list(paper), paper[:-1], paper[1:], paper + paper[-1:], paper[:1] + paper, paper[::-1], (), [],
            paper[:2] + paper[3:], paper[1:2] + paper[:1] + paper[2:],
        ]
        for entry in [
            [lot, move], (list(lot), move), (lot, list(move)), (lot,), (move,), (lot, move, move), (), None, lot, move,
            ((3, 0), move), ((0, 0, 3), move), ((0, 3, 3), move), ((0,), move), ((0, 1), move), ((0, 2), move), ((), move),
            ((False, 3), move), ((0, "3"), move), ((0, None), move), ((0, 4), move), ((-4, 3), move),
            (lot, still(4)), (lot, (1, 0, 2, 3)), (lot, (0, 2, True, 3)), (lot, (False, 2, 1, 3)), (lot, ()),
            (lot, (0, 2, 1)), (lot, (0, 2, 1, 3, 4)), (lot, None), (lot, 0), (lot, "move"), (lot, (3, 2, 1, 0)),
            (None, move), (0, move), ("", move), (lot * 13, move),
        ]:
            wrong.append(paper[:2] + (entry,) + paper[3:])
        for value in wrong:
            with self.subTest(value=repr(value)[:80]):
                self.same(shows_none_full(world, 2, value), False)
        for size in (0, 1, 3):
            self.same(shows_none_full(world, size, paper), False)

    def test_moves_that_are_not_made(self):
        world = World(4, [(1, 0, 2, 3), (0, 1, 3, 2)])
        paper = short_paper(world, 1)
        self.same(paper, (
            ((0,), (0, 1, 3, 2)), ((1,), (0, 1, 3, 2)), ((2,), (1, 0, 2, 3)), ((3,), (1, 0, 2, 3)),
        ))
        self.same(shows_none_full(world, 1, paper), True)
        self.same(shows_none_full(world, 1, (((0,), (0, 3, 2, 1)),) + paper[1:]), False)
        self.same(shows_none_full(all_moves(4), 1, (((0,), (0, 3, 2, 1)),) + paper[1:]), True)
        self.same(shows_none_full(all_moves(4), 1, paper), True)

    def test_many_lots(self):
        pairs = World(12, oracle.SIX_SWAPS)
        for size in range(6):
            paper = short_paper(pairs, size)
            self.same(len(paper), math.comb(12, size))
            self.same(shows_none_full(pairs, size, paper), True)
        self.refused(FullLot((0, 2, 4, 6, 8, 10)), short_paper, pairs, 6)
        self.refused(FullLot((0, 1, 2, 4, 6, 8, 10)), short_paper, pairs, 7)


if __name__ == "__main__":
    unittest.main()
