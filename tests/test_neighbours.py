"""The two rows of a failing, neighbour pairs and the walk back (points 38 to 40)."""

import itertools
import random
import unittest

from heldorder.errors import (
    NotAFailing, NotAPoint, NotFull, NotNeighbours, NotShorter, NotTight, SameLength, TooMany,
)
from heldorder.exchange import is_failing
from heldorder.neighbours import (
    failing_of_pair, find_failing, is_neighbour_pair, is_walk, left_out, two_rows, walk_back,
)
from heldorder.worlds import World
from tests import oracle
from tests.support import ANY_VALUES, Case, allow

EXAMPLE = World(6, [(1, 2, 3, 0, 5, 4)])
STILL = World(3)
NOTHING = World(0)
PAIRS = World(12, oracle.SIX_SWAPS)
FOUR_HUNDRED = World(12, oracle.FOUR_HUNDRED)

# Lengths 1, 2 and 3.
WIDE = oracle.Known("wide", World(*oracle.GIVEN["one to three"]), *oracle.GIVEN["one to three"], World(
    *oracle.GIVEN["one to three"]
).made)


def walk(known, s, c):
    """The walk back by the words of point 40; rows are tuples."""
    rows, i = [s], 0
    while True:
        rest, q = rows[-1][i:], c[i]
        j = next(j for j in range(1, len(rest) + 1) if q in known.shut(c[:i] + rest[:j]))
        p, g = rest[j - 1], c[:i] + rest[:j - 1]
        if p not in known.shut(g + (q,)):
            return rows, (known.tight_part(g), p, q)
        rows.append(c[:i + 1] + rest[:j - 1] + rest[j:])
        i += 1


def is_walk_words(known, s, c, rows):
    """Whether the tuples of points are what is_walk asks for, word by word."""
    if not rows or rows[0] != s:
        return False
    for i, entry in enumerate(rows):
        if len(entry) != len(s) or not known.is_full(entry) or i > len(c) or i > len(s) or entry[:i] != c[:i]:
            return False
        behind = rows[i - 1][i - 1:] if i else ()
        if i and entry[i:] not in [oracle.without(behind, k) for k in range(len(behind))]:
            return False
    return True


def walk_cases(known, many, chance):
    """Full rows, some of them loose, each with a tight row of more points, some of them not full."""
    for _ in range(many):
        c = chance.choice(known.tight)
        s = chance.choice(known.full)
        if chance.randrange(2):
            s = s + tuple(chance.choice(range(known.points)) for _ in range(chance.randrange(3)) if known.points)
            s = tuple(chance.sample(s, len(s)))
        if len(s) < len(c):
            yield s, c


def wandering(known, s, c, chance):
    """A list as is_walk asks for, with some point left out at each step, ended somewhere."""
    rows = [s]
    for i in range(1, chance.randrange(min(len(s), len(c)) + 1) + 1):
        rest = rows[-1][i - 1:]
        found = [c[:i] + oracle.without(rest, k) for k in range(len(rest))]
        found = [row for row in found if known.is_full(row)]
        if not found:
            break
        rows.append(chance.choice(found))
    return rows


class TwoRows(Case):

    def test_corpus(self):
        for known in oracle.known():
            for held in known.tight[:60]:
                for p, q in known.pairs(held):
                    with self.subTest(name=known.name, failing=(held, p, q)):
                        longer = oracle.completed(known.points, known.made, held + (q, p))
                        shorter = oracle.without(longer, len(held))
                        self.same(two_rows(known.world, (held, p, q)), (longer, shorter))
                        for row in (longer, shorter):
                            self.same((known.is_tight(row), known.is_full(row)), (True, True))
                        self.same(is_neighbour_pair(known.world, longer, shorter), True)
                        self.same(is_failing(known.world, failing_of_pair(known.world, longer, shorter)), True)

    def test_the_example(self):
        self.same(two_rows(EXAMPLE, ((), 0, 4)), ((4, 0), (0,)))
        self.same(two_rows(EXAMPLE, ((), 3, 5)), ((5, 3), (3,)))
        self.same(failing_of_pair(EXAMPLE, (4, 0), (0,)), ((), 0, 4))

    def test_not_a_failing(self):
        self.refused(NotAFailing(1), two_rows, EXAMPLE, ((4, 5), 0, 1))
        self.refused(NotAFailing(1), two_rows, EXAMPLE, ((0,) * 24, 0, 1))
        self.refused(NotAFailing(2), two_rows, EXAMPLE, ((4,), 0, 5))
        self.refused(NotAFailing(3), two_rows, EXAMPLE, ((), 4, 0))
        self.refused(NotAFailing(4), two_rows, EXAMPLE, ((), 0, 1))
        for value in [
            ([], 0, 4), [(), 0, 4], ((), 0), ((), 0, 4, 4), ((0,) * 25, 0, 4), ((4, 5), 0, 6), ((4, 5), True, 0),
            ((4, 5), 0, False), ((4, True), 0, 1), ((4, 5, 6), 0, 1), ((4, 5, -1), 0, 1), ((4, 5, None), 0, 1), (),
        ]:
            with self.subTest(value=value):
                self.refused(NotAFailing(0), two_rows, EXAMPLE, value)

    def test_any_value(self):
        for world in (EXAMPLE, STILL, NOTHING, FOUR_HUNDRED):
            for value in ANY_VALUES:
                with self.subTest(value=repr(value)[:60]):
                    self.refused(NotAFailing(0), two_rows, world, value)


class LeftOut(Case):

    def test_all_short_rows(self):
        rows = [row for length in range(4) for row in itertools.product((0, 1, -7), repeat=length)]
        for longer in rows:
            for shorter in rows:
                found = [i for i in range(len(longer)) if oracle.without(longer, i) == shorter]
                for kind in (list, tuple):
                    self.same(left_out(kind(longer), shorter), found[0] if found else None)
                    self.same(left_out(longer, kind(shorter)), found[0] if found else None)

    def test_some(self):
        self.same(left_out((4, 0), (0,)), 0)
        self.same(left_out([4, 4, 4], (4, 4)), 0)
        self.same(left_out([4, 5, 5, 6], [4, 5, 6]), 1)
        self.same(left_out([], []), None)
        self.same(left_out([3], []), 0)
        self.same(left_out([3], [3]), None)
        self.same(left_out([3], [3, 3]), None)
        self.same(left_out([1, 2, 3], [1]), None)
        self.same(left_out([1, 2], [2, 1]), None)

    def test_entries_that_are_no_points(self):
        self.same(left_out([100, -5, 10 ** 29], (100, 10 ** 29)), 1)
        self.same(left_out((-1, 13), [13]), 0)

    def test_twenty_four_entries(self):
        row = list(range(24))
        for index in range(24):
            self.same(left_out(row, row[:index] + row[index + 1:]), index)
        self.same(left_out([7] * 24, [7] * 23), 0)
        self.same(left_out([7] * 23, [7] * 24), None)
        for kind in (list, tuple):
            self.refused(TooMany("row", 24), left_out, kind([7] * 25), [7] * 24)
            self.refused(TooMany("row", 24), left_out, [7] * 24, kind([7] * 25))
            self.refused(TooMany("row", 24), left_out, kind([7] * 25), [7] * 25)

    def test_what_is_passed_stays(self):
        longer, shorter = [4, 0, 4], [4, 0]
        left_out(longer, shorter)
        self.same((longer, shorter), ([4, 0, 4], [4, 0]))


class NeighbourPairs(Case):

    def pairs(self, known, many):
        """Tight full rows with others that come near being neighbours of theirs."""
        chance = random.Random(known.points)
        for longer in chance.sample(known.full, min(many, len(known.full))):
            yield longer, chance.choice(known.full)
            for index in range(len(longer)):
                yield longer, oracle.without(longer, index)
            yield longer, longer

    def test_corpus(self):
        for known in oracle.known():
            for longer, shorter in self.pairs(known, 30):
                right = shorter in known.full and any(
                    oracle.without(longer, index) == shorter for index in range(len(longer))
                )
                with self.subTest(name=known.name, longer=longer, shorter=shorter):
                    for kind in (list, tuple):
                        self.same(is_neighbour_pair(known.world, kind(longer), shorter), right)
                        self.same(is_neighbour_pair(known.world, longer, kind(shorter)), right)
                    if not right:
                        self.refused(NotNeighbours(), failing_of_pair, known.world, longer, shorter)
                        continue
                    self.same(is_neighbour_pair(known.world, shorter, longer), False)
                    at = next(i for i in range(len(longer)) if oracle.without(longer, i) == shorter)
                    a, x, b = longer[:at], longer[at], longer[at + 1:]
                    j = next(j for j in range(1, len(b) + 1) if x in known.shut(a + b[:j]))
                    failing = (a + b[:j - 1], b[j - 1], x)
                    self.same(failing_of_pair(known.world, longer, shorter), failing)
                    self.same(failing_of_pair(known.world, list(longer), list(shorter)), failing)
                    self.same(is_failing(known.world, failing), True)

    def test_some(self):
        self.same(is_neighbour_pair(EXAMPLE, [4, 0], [0]), True)
        self.same(is_neighbour_pair(EXAMPLE, (4, 0), [4]), False)
        self.same(is_neighbour_pair(EXAMPLE, (0, 4), (0,)), False)
        self.same(is_neighbour_pair(EXAMPLE, (0, 0), (0,)), False)
        self.same(is_neighbour_pair(EXAMPLE, (0,), ()), False)
        self.same(is_neighbour_pair(EXAMPLE, (0,), (0,)), False)
        self.same(is_neighbour_pair(STILL, (), ()), False)
        self.same(is_neighbour_pair(NOTHING, (), ()), False)
        self.same(failing_of_pair(EXAMPLE, [5, 2], [2]), ((), 2, 5))

    def test_any_values(self):
        self.check_judged_argument(lambda value: is_neighbour_pair(EXAMPLE, value, (0,)))
        self.check_judged_argument(lambda value: is_neighbour_pair(EXAMPLE, value, value))
        self.check_judged_argument(lambda value: is_neighbour_pair(EXAMPLE, (4, 0), value), but=[[0], (0,)])
        self.check_judged_argument(lambda value: is_neighbour_pair(EXAMPLE, (4, True), value))
        self.check_judged_argument(lambda value: is_neighbour_pair(EXAMPLE, [4, 0], value), but=[[0], (0,)])
        for value in (True, False, (False,), [False], (0.0,), "0", (0, 0), [0] * 25, ((0,),)):
            self.same(is_neighbour_pair(EXAMPLE, (4, 0), value), False)
        self.same(is_neighbour_pair(EXAMPLE, (4, False), (0,)), False)
        self.same(is_neighbour_pair(EXAMPLE, (4, 1), (True,)), False)
        self.same(is_neighbour_pair(EXAMPLE, (4, 1), (1,)), True)

    def test_wrong_rows(self):
        call = allow(failing_of_pair, NotNeighbours)
        self.check_two_row_arguments(lambda longer, shorter: call(EXAMPLE, longer, shorter), 6)
        self.refused(NotNeighbours(), failing_of_pair, EXAMPLE, [0] * 24, [0] * 23)
        self.refused(NotNeighbours(), failing_of_pair, EXAMPLE, (0,), (4, 0))
        self.refused(NotNeighbours(), failing_of_pair, NOTHING, (), [])
        self.refused(NotAPoint(0), failing_of_pair, NOTHING, [], [0])


class Walks(Case):

    def test_corpus(self):
        for seed, known in enumerate(oracle.known()):
            for s, c in walk_cases(known, 60, random.Random(seed)):
                with self.subTest(name=known.name, shorter=s, longer=c):
                    rows, failing = walk(known, s, c)
                    self.same(walk_back(known.world, s, c), (rows, failing))
                    self.same(walk_back(known.world, list(s), list(c)), (rows, failing))
                    self.assertLessEqual(len(rows), len(s))
                    self.same(is_failing(known.world, failing), True)
                    self.same(is_walk(known.world, s, c, rows), True)
                    self.same(is_walk(known.world, list(s), list(c), tuple(rows)), True)

    def test_two_full_rows_of_different_lengths_corpus(self):
        for seed, known in enumerate(oracle.known()):
            chance = random.Random(seed)
            for _ in range(20):
                first, second = chance.choice(known.full), chance.choice(known.full)
                with self.subTest(name=known.name, first=first, second=second):
                    if len(first) == len(second):
                        self.refused(SameLength(len(first)), find_failing, known.world, first, second)
                        continue
                    s, c = sorted((first, second), key=len)
                    _, failing = walk(known, s, c)
                    self.same(find_failing(known.world, first, second), failing)
                    self.same(find_failing(known.world, list(second), list(first)), failing)

    def test_longer_walks(self):
        steps = set()
        chance = random.Random(3)
        for known in oracle.known():
            for s, c in walk_cases(known, 60, chance):
                steps.add(len(walk_back(known.world, s, c)[0]))
        self.assertLessEqual({1, 2}, steps)

    def test_some(self):
        self.same(walk_back(EXAMPLE, (0,), (4, 0)), ([(0,)], ((), 0, 4)))
        self.same(walk_back(EXAMPLE, [2], [5, 1]), ([(2,)], ((), 2, 5)))
        self.same(find_failing(EXAMPLE, (4, 0), (1,)), ((), 1, 4))
        self.same(find_failing(EXAMPLE, [3], [5, 2]), ((), 3, 5))

    def test_a_shorter_row_that_is_loose(self):
        known = WIDE
        s, c = next(
            (s, c) for c in known.tight if len(c) == 3 for s in itertools.product(range(12), repeat=2)
            if known.is_full(s) and not known.is_tight(s)
        )
        self.same(walk_back(known.world, s, c), walk(known, s, c))

    def test_a_longer_row_that_is_not_full(self):
        known = WIDE
        found = [(s, c) for c in known.tight if len(c) == 2 and not known.is_full(c) for s in known.full if len(s) == 1]
        self.assertTrue(found)
        for s, c in found:
            self.same(walk_back(known.world, s, c), walk(known, s, c))

    def test_refusals_in_order(self):
        self.refused(NotFull(0), walk_back, EXAMPLE, (4,), (0, 4))
        self.refused(NotFull(0), walk_back, EXAMPLE, (4, 5, 4), (4, 0))
        self.refused(NotTight(1), walk_back, EXAMPLE, (0,), (0, 4, 5))
        self.refused(NotTight(2), walk_back, EXAMPLE, (0, 0, 0), (4, 0, 1))
        self.refused(NotShorter(2, 2), walk_back, EXAMPLE, (0, 0), (4, 0))
        self.refused(NotShorter(1, 1), walk_back, EXAMPLE, [0], [4])
        self.refused(NotShorter(24, 2), walk_back, EXAMPLE, [0] * 24, (4, 0))
        self.refused(NotShorter(0, 0), walk_back, STILL, [], ())
        self.refused(NotShorter(1, 0), walk_back, STILL, [1], ())
        self.refused(NotFull(2), walk_back, PAIRS, (0, 4, 6, 8, 10), (0, 0))

    def test_wrong_rows(self):
        call = allow(walk_back, NotFull, NotTight, NotShorter)
        self.check_two_row_arguments(lambda shorter, longer: call(EXAMPLE, shorter, longer), 6)
        call = allow(find_failing, NotFull, NotTight, SameLength)
        self.check_two_row_arguments(lambda first, second: call(EXAMPLE, first, second), 6)
        self.check_two_row_arguments(lambda shorter, longer: is_walk(EXAMPLE, shorter, longer, []), 6)
        self.refused(NotAPoint(6), is_walk, EXAMPLE, [6], [], None)
        self.refused(TooMany("row", 24), is_walk, EXAMPLE, [0], [0] * 25, [(0,)])

    def test_find_failing_refusals_in_order(self):
        loose, short, whole = (0, 4), (4,), (4, 0)
        self.refused(NotTight(1), find_failing, EXAMPLE, loose, (5, 4))
        self.refused(NotTight(1), find_failing, EXAMPLE, (4, 5), (0, 0, 0))
        self.refused(NotFull(0), find_failing, EXAMPLE, short, loose)
        self.refused(NotTight(1), find_failing, EXAMPLE, whole, (4, 4))
        self.refused(NotTight(1), find_failing, EXAMPLE, whole, loose)
        self.refused(NotFull(0), find_failing, EXAMPLE, whole, ())
        self.refused(NotFull(0), find_failing, EXAMPLE, (0,), short)
        self.refused(SameLength(2), find_failing, EXAMPLE, whole, (5, 2))
        self.refused(SameLength(1), find_failing, EXAMPLE, (0,), [0])
        self.refused(SameLength(0), find_failing, STILL, (), [])
        self.refused(NotTight(0), find_failing, STILL, (), [1])

    def test_what_is_passed_stays(self):
        shorter, longer, rows = [0], [4, 0], [(0,)]
        walk_back(EXAMPLE, shorter, longer)[0].append(None)
        find_failing(EXAMPLE, longer, shorter)
        is_walk(EXAMPLE, shorter, longer, rows)
        failing_of_pair(EXAMPLE, longer, shorter)
        is_neighbour_pair(EXAMPLE, longer, shorter)
        self.same((shorter, longer, rows), ([0], [4, 0], [(0,)]))
        self.same(walk_back(EXAMPLE, shorter, longer), ([(0,)], ((), 0, 4)))


class JudgedWalks(Case):

    def test_walks_that_are_not_the_walk_back_corpus(self):
        for seed, known in enumerate(oracle.known()):
            chance = random.Random(seed)
            for _ in range(20):
                s = chance.choice(known.full) + tuple(p for p in range(known.points) if not chance.randrange(4))
                c = tuple(chance.randrange(known.points) for _ in range(chance.randrange(5)) if known.points)
                rows = wandering(known, s, c, chance)
                with self.subTest(name=known.name, shorter=s, longer=c, rows=rows):
                    self.same(is_walk_words(known, s, c, rows), True)
                    self.same(is_walk(known.world, s, c, rows), True)
                    self.same(is_walk(known.world, list(s), list(c), tuple(rows)), True)

    def test_spoilt_walks_corpus(self):
        right = 0
        for seed, known in enumerate(oracle.known()):
            chance = random.Random(seed)
            for _ in range(30):
                s = chance.choice(known.full) + tuple(p for p in range(known.points) if not chance.randrange(4))
                c = tuple(chance.randrange(known.points) for _ in range(chance.randrange(5)) if known.points)
                rows = wandering(known, s, c, chance)
                at = chance.randrange(len(rows))
                entry = list(rows[at])
                if entry and chance.randrange(2):
                    entry[chance.randrange(len(entry))] = chance.randrange(known.points)
                else:
                    chance.shuffle(entry)
                for spoilt in [
                    rows[:at] + [tuple(entry)] + rows[at + 1:], rows[at:], rows[:at], rows + rows[-1:], rows[::-1],
                    rows[:at] + [rows[at][:-1]] + rows[at + 1:], rows[:at] + [rows[at] + (0,)] + rows[at + 1:],
                ]:
                    with self.subTest(name=known.name, shorter=s, longer=c, rows=spoilt):
                        expected = all(
                            all(p < known.points for p in row) for row in spoilt
                        ) and is_walk_words(known, s, c, spoilt)
                        right += expected
                        self.same(is_walk(known.world, s, c, spoilt), expected)
        self.assertGreater(right, 100)

    def test_some(self):
        for rows in ([(0, 0)], [(0, 0), (4, 0)], ((0, 0), (4, 0))):
            self.same(is_walk(EXAMPLE, (0, 0), (4, 0), rows), True)
            self.same(is_walk(EXAMPLE, (0, 0), (5, 0), rows), len(rows) == 1)
        self.same(is_walk(EXAMPLE, [0, 0], [4, 1], [(0, 0), (4, 0), (4, 1)]), True)
        self.same(is_walk(EXAMPLE, [0, 0], [4, 1], [(0, 0), (4, 0), (4, 0)]), False)
        self.same(is_walk(EXAMPLE, [0, 0], [4, 0], [(0, 0), (4, 0), (4, 0)]), True)
        self.same(is_walk(EXAMPLE, [0, 0], [4, 0], [(0, 0), (4, 0), (4, 0), (4, 0)]), False)
        self.same(is_walk(EXAMPLE, [0, 0, 1], [4, 0], [(0, 0, 1), (4, 0, 1), (4, 0, 1), (4, 0, 1)]), False)
        # Any point may be the one left out, and rows need not be tight.
        self.same(is_walk(EXAMPLE, [0, 1, 2], [4, 0], [(0, 1, 2), (4, 1, 2), (4, 0, 1)]), True)
        self.same(is_walk(EXAMPLE, [0, 1, 2], [4, 0], [(0, 1, 2), (4, 1, 2), (4, 0, 0)]), False)
        self.same(is_walk(EXAMPLE, [0, 1, 2], [4, 0], [(0, 1, 2), (4, 2, 1)]), False)
        self.same(is_walk(EXAMPLE, [0, 1, 2], [4, 0], [(0, 1, 2), (5, 1, 2)]), False)
        # The longer row need not be longer, nor tight, nor full.
        self.same(is_walk(EXAMPLE, [0, 1, 2], [], [(0, 1, 2)]), True)
        self.same(is_walk(EXAMPLE, [0, 1, 2], [5], [(0, 1, 2), (5, 0, 2)]), True)
        self.same(is_walk(EXAMPLE, [4, 5], [0], [(4, 5)]), False)
        self.same(is_walk(EXAMPLE, [4], [0], [(4,), (0,)]), False)
        self.same(is_walk(STILL, [], [], [()]), True)
        self.same(is_walk(STILL, [], [1], [(), ()]), False)
        self.same(is_walk(STILL, [1], [2], [(1,), (2,)]), True)
        self.same(is_walk(NOTHING, (), (), ((),)), True)

    def test_twenty_four_entries(self):
        row = (0,) * 24
        self.same(is_walk(EXAMPLE, row, row, [row] * 25), True)
        self.same(is_walk(EXAMPLE, row, row, [row] * 26), False)
        self.same(is_walk(EXAMPLE, row, row[:3], [row] * 4), True)
        self.same(is_walk(EXAMPLE, row, row[:3], [row] * 5), False)
        self.same(is_walk(EXAMPLE, row, row, [row + (0,)]), False)

    def test_any_value(self):
        self.check_judged_argument(lambda value: is_walk(EXAMPLE, [0, 0], [4, 0], value))
        self.check_judged_argument(lambda value: is_walk(FOUR_HUNDRED, [0, 1, 5, 6], [0], value))
        self.check_judged_argument(lambda value: is_walk(STILL, [1], [1], value))
        self.check_judged_argument(lambda value: is_walk(NOTHING, [], [], value), but=[[()], ((),)])
        for rows in (
            [[0, 0]], [(0, 0), [4, 0]], [(0, False)], [(False, False)], [(0, 0), (4, False)], [(0, 0), None], [], (),
            [(0, 0), (4, 0, 0)], [(0, 0), (4,)], "00", [(0, 6)], [(0, -1)], [((0, 0),)], (0, 0), [(0, "0")],
        ):
            with self.subTest(rows=rows):
                self.same(is_walk(EXAMPLE, [0, 0], [4, 0], rows), False)


if __name__ == "__main__":
    unittest.main()
