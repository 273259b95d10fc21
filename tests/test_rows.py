"""Tight, loose, full and lean rows and what shows them (points 24 to 28)."""

import itertools
import unittest

from heldorder.errors import NotAPoint, NotFull, NotTight, TooMany, UnlikeSizes
from heldorder.rows import (
    completed, is_full, is_lean, is_tight, loose_indexes, move_by_images, needless_indexes, shows_tight, tight_part,
    tightness_proof,
)
from heldorder.worlds import World
from tests import oracle
from tests.support import NOT_MOVES, Case, still

EXAMPLE = World(6, [(1, 2, 3, 0, 5, 4)])
ROUND = (1, 2, 3, 0, 5, 4)
HALF = (2, 3, 0, 1, 4, 5)
BACK = (3, 0, 1, 2, 5, 4)
FOUR_HUNDRED = World(12, oracle.FOUR_HUNDRED)
PAIRS = World(12, oracle.SIX_SWAPS)


def cases(many):
    for seed, (name, world, points, _, made) in enumerate(oracle.worlds()):
        for row in oracle.rows_to_try(points, seed, many):
            yield name, world, points, made, row


class Judgements(Case):

    def test_corpus(self):
        for name, world, points, made, row in cases(20):
            with self.subTest(name=name, row=row):
                loose, needless = oracle.loose(made, row), oracle.needless(made, row)
                full = oracle.is_full(made, row)
                for given in (row, list(row)):
                    self.same(loose_indexes(world, given), loose)
                    self.same(is_tight(world, given), not loose)
                    self.same(is_full(world, given), full)
                    self.same(needless_indexes(world, given), needless)
                    self.same(is_lean(world, given), full and not needless)
                    self.same(tight_part(world, given), tuple(p for i, p in enumerate(row) if i not in loose))
                    self.same(completed(world, given), oracle.completed(points, made, row))

    def test_second_occurrences(self):
        self.same(loose_indexes(EXAMPLE, (4, 4, 0, 4, 0)), (1, 3, 4))
        self.same(loose_indexes(EXAMPLE, [4] * 24), tuple(range(1, 24)))
        self.same(tight_part(EXAMPLE, [4] * 24), (4,))
        self.same(needless_indexes(EXAMPLE, (4, 4, 0)), (0, 1))
        self.same(needless_indexes(EXAMPLE, (4, 0, 0)), (0, 1, 2))

    def test_points_that_nothing_moves(self):
        world = World(4, [(1, 0, 2, 3)])
        self.same(loose_indexes(world, (2, 0, 3, 1, 2)), (0, 2, 3, 4))
        self.same(tight_part(world, (2, 0, 3, 1, 2)), (0,))
        self.same(is_tight(world, (2,)), False)

    def test_looseness_is_judged_in_the_whole_row(self):
        self.same(loose_indexes(EXAMPLE, (0, 4)), (1,))
        self.same(loose_indexes(EXAMPLE, (4, 0)), ())
        self.same(loose_indexes(EXAMPLE, (4, 5, 0)), (1,))

    def test_the_empty_row(self):
        for name, world, _, _, made in oracle.worlds():
            with self.subTest(name=name):
                self.same(loose_indexes(world, ()), ())
                self.same(is_tight(world, []), True)
                self.same(is_full(world, ()), len(made) == 1)
                self.same(is_lean(world, []), len(made) == 1)
                self.same(needless_indexes(world, ()), ())
                self.same(tight_part(world, []), ())

    def test_lean_rows(self):
        self.same(is_lean(EXAMPLE, (0,)), True)
        self.same(is_lean(EXAMPLE, (4, 0)), False)
        self.same(is_lean(EXAMPLE, (4,)), False)
        self.same(is_lean(EXAMPLE, (0, 0)), False)

    def test_completions(self):
        self.same(completed(EXAMPLE, ()), (0,))
        self.same(completed(EXAMPLE, [4]), (4, 0))
        self.same(completed(EXAMPLE, (4, 5, 4)), (4, 5, 4, 0))
        self.same(completed(World(0), ()), ())
        self.same(completed(World(3), []), ())
        self.same(completed(PAIRS, ()), (0, 2, 4, 6, 8, 10))
        self.same(completed(FOUR_HUNDRED, ()), (0, 1, 5, 6))

    def test_completion_of_a_full_row_keeps_duplicates(self):
        self.same(completed(EXAMPLE, (0, 0, 4)), (0, 0, 4))
        self.same(completed(EXAMPLE, [4, 4, 0, 0]), (4, 4, 0, 0))
        self.same(completed(EXAMPLE, [0] * 24), (0,) * 24)
        self.same(completed(World(3), (2, 2)), (2, 2))

    def test_completion_of_twenty_four_points(self):
        self.same(completed(EXAMPLE, [4] * 24), (4,) * 24 + (0,))
        self.same(completed(PAIRS, (2,) * 24), (2,) * 24 + (0, 4, 6, 8, 10))
        self.same(completed(FOUR_HUNDRED, (10, 11) * 12), (10, 11) * 12 + (0, 1, 5, 6))

    def test_rows_of_twenty_four_points(self):
        row = (0, 2, 4, 6, 8, 10) * 4
        self.same(loose_indexes(PAIRS, row), tuple(range(6, 24)))
        self.same(is_full(PAIRS, row), True)
        self.same(needless_indexes(PAIRS, row), tuple(range(24)))
        self.same(needless_indexes(PAIRS, row[:6]), ())
        self.same(is_lean(PAIRS, row[:6]), True)

    def test_wrong_rows(self):
        for call in (
            loose_indexes, is_tight, is_full, is_lean, tight_part, completed, needless_indexes,
            lambda world, row: shows_tight(world, row, ()), lambda world, row: shows_tight(world, row, None),
        ):
            for world in (EXAMPLE, FOUR_HUNDRED):
                self.check_row_argument(lambda row: call(world, row), world.points)
            self.refused(NotAPoint(0), call, World(0), [0])
            self.refused(TooMany("row", 24), call, World(0), [0] * 25)


class Proofs(Case):

    def test_corpus(self):
        for name, world, points, made, row in cases(10):
            with self.subTest(name=name, row=row):
                loose = oracle.loose(made, row)
                for given in (row, list(row)):
                    if loose:
                        self.refused(NotTight(loose[0]), tightness_proof, world, given)
                        continue
                    proof = tuple(
                        min(m for m in oracle.holders(made, row[:i]) if m[p] != p) for i, p in enumerate(row)
                    )
                    self.same(tightness_proof(world, given), proof)
                    self.same(shows_tight(world, given, proof), True)

    def test_some(self):
        self.same(tightness_proof(EXAMPLE, ()), ())
        self.same(tightness_proof(EXAMPLE, (4, 0)), (ROUND, HALF))
        self.same(tightness_proof(EXAMPLE, [4, 0]), (ROUND, HALF))
        self.same(tightness_proof(EXAMPLE, (2,)), (ROUND,))

    def test_the_least_loose_index(self):
        self.refused(NotTight(1), tightness_proof, EXAMPLE, (0, 4, 5, 0))
        self.refused(NotTight(2), tightness_proof, EXAMPLE, (4, 0, 0, 4))
        self.refused(NotTight(0), tightness_proof, World(2), [1, 0])
        self.refused(NotTight(1), tightness_proof, EXAMPLE, [4] * 24)

    def test_wrong_rows(self):
        for row in ([0] * 25, [None] * 25):
            self.refused(TooMany("row", 24), tightness_proof, EXAMPLE, row)
        self.refused(NotAPoint(6), tightness_proof, EXAMPLE, [0, 0, 6, 7])
        self.refused(NotAPoint(True), tightness_proof, EXAMPLE, (4, True))

    def test_all_pairs_of_made_moves(self):
        for row in ((4, 0), (5, 3), (0, 4), (4, 5), (4, 4), (0, 0)):
            for moves in itertools.product(EXAMPLE.made, repeat=2):
                right = moves[0][row[0]] != row[0] and moves[1][row[0]] == row[0] and moves[1][row[1]] != row[1]
                self.same(shows_tight(EXAMPLE, row, moves), right)
                self.same(shows_tight(EXAMPLE, list(row), moves), right)
                self.same(shows_tight(EXAMPLE, row, list(moves)), False)

    def test_moves_must_be_made(self):
        self.same(shows_tight(EXAMPLE, (4,), (ROUND,)), True)
        self.same(shows_tight(EXAMPLE, (4,), (BACK,)), True)
        self.same(shows_tight(EXAMPLE, (4,), ((0, 1, 2, 3, 5, 4),)), False)
        self.same(shows_tight(EXAMPLE, (4, 0), (ROUND, (1, 0, 2, 3, 4, 5))), False)

    def test_one_move_for_each_index(self):
        self.same(shows_tight(EXAMPLE, (4, 0), (ROUND,)), False)
        self.same(shows_tight(EXAMPLE, (4,), (ROUND, HALF)), False)
        self.same(shows_tight(EXAMPLE, (), ()), True)
        self.same(shows_tight(EXAMPLE, (), (still(6),)), False)
        self.same(shows_tight(EXAMPLE, (4,), ()), False)
        self.same(shows_tight(EXAMPLE, [4] * 24, (ROUND,) * 24), False)
        self.same(shows_tight(EXAMPLE, [4] * 24, (ROUND,) * 25), False)
        self.same(shows_tight(World(0), (), ()), True)

    def test_a_list_is_no_proof(self):
        self.same(shows_tight(EXAMPLE, (), []), False)
        self.same(shows_tight(EXAMPLE, [], []), False)
        self.same(shows_tight(EXAMPLE, (4,), [ROUND]), False)

    def test_any_value(self):
        for value in NOT_MOVES + [None, True, ROUND, "x", 6, (None,), (list(ROUND),)]:
            with self.subTest(value=repr(value)[:60]):
                self.same(shows_tight(EXAMPLE, (4,), value), False)
                self.same(shows_tight(EXAMPLE, (4,), (value,)), value == ROUND)
        self.same(shows_tight(World(2, [(1, 0)]), (0,), ((1, 0),)), True)
        self.same(shows_tight(World(2, [(1, 0)]), (0,), ((True, False),)), False)


class MoveByImages(Case):

    def test_corpus(self):
        for name, world, points, made, row in cases(6):
            full = oracle.is_full(made, row)
            closed = oracle.closure(points, made, row)
            with self.subTest(name=name, row=row):
                if not full:
                    missing = min(p for p in range(points) if p not in closed)
                    self.refused(NotFull(missing), move_by_images, world, row, row)
                    continue
                for move in made[:30]:
                    images = tuple(move[p] for p in row)
                    self.same(move_by_images(world, row, images), move)
                    self.same(move_by_images(world, list(row), list(images)), move)

    def test_all_pairs_of_points(self):
        for images in itertools.product(range(6), repeat=2):
            found = [move for move in EXAMPLE.made if (move[4], move[0]) == images]
            self.same(move_by_images(EXAMPLE, (4, 0), images), found[0] if found else None)

    def test_some(self):
        self.same(move_by_images(EXAMPLE, (0,), (3,)), BACK)
        self.same(move_by_images(EXAMPLE, (0,), (4,)), None)
        self.same(move_by_images(EXAMPLE, (0, 0), (1, 1)), ROUND)
        self.same(move_by_images(EXAMPLE, (0, 0), (1, 2)), None)
        self.same(move_by_images(World(0), (), ()), ())
        self.same(move_by_images(World(3), [], ()), still(3))
        self.same(move_by_images(World(3), [1], (2,)), None)

    def test_not_full(self):
        self.refused(NotFull(0), move_by_images, EXAMPLE, (), ())
        self.refused(NotFull(0), move_by_images, EXAMPLE, (4, 5), (0, 1))
        self.refused(NotFull(2), move_by_images, PAIRS, (0, 4, 6, 8, 10), ())
        self.refused(NotFull(10), move_by_images, PAIRS, (8, 0, 4, 2, 6), (0,))
        self.refused(NotFull(1), move_by_images, FOUR_HUNDRED, [0] * 24, [0] * 24)

    def test_unlike_sizes(self):
        self.refused(UnlikeSizes(1, 2), move_by_images, EXAMPLE, (0,), (0, 1))
        self.refused(UnlikeSizes(2, 1), move_by_images, EXAMPLE, [0, 4], [0])
        self.refused(UnlikeSizes(0, 1), move_by_images, World(1), (), (0,))
        self.refused(UnlikeSizes(24, 0), move_by_images, EXAMPLE, [0] * 24, ())

    def test_order_of_checks(self):
        self.check_row_argument(lambda row: move_by_images(World(6), row, list(row)), 6)
        self.check_row_argument(lambda images: move_by_images(World(6), [0] * len(images), images), 6)
        self.refused(TooMany("row", 24), move_by_images, EXAMPLE, [0] * 25, [0] * 25)
        self.refused(NotAPoint(7), move_by_images, EXAMPLE, [7], [0] * 25)
        self.refused(TooMany("row", 24), move_by_images, EXAMPLE, [4], [None] * 25)
        self.refused(NotAPoint(8), move_by_images, EXAMPLE, [4], [8, 0])
        self.refused(NotFull(0), move_by_images, EXAMPLE, [4], [0, 1])
        self.refused(UnlikeSizes(1, 0), move_by_images, EXAMPLE, [0], [])


class Arguments(Case):

    def test_what_is_passed_stays(self):
        row, images = [4, 0, 4], [5, 1, 5]
        for call in (
            loose_indexes, is_tight, is_full, is_lean, tight_part, completed, needless_indexes,
        ):
            call(EXAMPLE, row)
        move_by_images(EXAMPLE, row, images)
        shows_tight(EXAMPLE, row, (ROUND, HALF, ROUND))
        self.same((row, images), ([4, 0, 4], [5, 1, 5]))
        row = [4, 0]
        tightness_proof(EXAMPLE, row)
        self.same(row, [4, 0])


if __name__ == "__main__":
    unittest.main()
