"""Span tables, right tables, length papers, verdicts, right papers (points 70 to 73)."""

import functools
import random
import unittest

from heldorder.makers import all_moves, ring
from heldorder.papers import (
    is_length_paper, is_right, is_right_table, is_verdict, length_paper, span_table, verdict,
)
from heldorder.papertext import has_paper_form
from heldorder.worlds import World
from tests import oracle, plain
from tests.support import Case

EXAMPLE = World(6, [(1, 2, 3, 0, 5, 4)])
NOTHING = World(0)
STILL = World(3)
THREE = all_moves(3)
WHOLE = (0, 1, 2, 3, 4, 5)
TABLE = (((), 1, 2), ((4, 5), 1, 1), (WHOLE, 0, 0))
MANY = ("many", ((), 0, 4), (4, 0), (0,))
LENGTHS = ("lengths", ((0,), (4, 0)), TABLE)
ONE = ("one", (((), 2, 2), ((0,), 1, 1), ((1,), 1, 1), ((2,), 1, 1), ((0, 1, 2), 0, 0)))


def places_of(value, path=()):
    """The path to each part of a value of tuples."""
    found = [path]
    if isinstance(value, tuple):
        for index, part in enumerate(value):
            found += places_of(part, path + (index,))
    return found


def replaced(value, path, change):
    """The value with the part at the path changed."""
    if not path:
        return change(value)
    return value[:path[0]] + (replaced(value[path[0]], path[1:], change),) + value[path[0] + 1:]


def drawn_change(chance, part):
    """A small change of a part of a paper, one that leaves its kind or one that does not."""
    if isinstance(part, tuple):
        changes = [list(part), part + part[-1:], part[:-1], part[1:], part[::-1], part + (0,), part[1:] + part[:1], (), None]
    elif isinstance(part, int):
        changes = [part + 1, part - 1, part + 1, part - 1, 0, 1, 12, 13, bool(part), None, str(part)]
    else:
        changes = ["one", "many", "lengths", None, 0, ""]
    return chance.choice(changes)


class Tables(Case):

    def test_corpus(self):
        for known in oracle.known():
            table = plain.spans(known)
            self.same([lot for lot, _, _ in table], known.closed)
            with self.subTest(name=known.name):
                self.same(span_table(known.world), table)
                self.same(is_right_table(known.world, table), True)
                self.same(is_right_table(known.world, table[::-1]), True)
                self.same(is_right_table(known.world, list(table)), False)
                self.same(plain.is_right_table(known, table), True)

    def test_some(self):
        self.same(span_table(EXAMPLE), TABLE)
        self.same(span_table(NOTHING), (((), 0, 0),))
        self.same(span_table(World(12)), ((tuple(range(12)), 0, 0),))
        self.same(span_table(THREE), ONE[1])

    def test_changed_tables(self):
        chance = random.Random(70)
        met = {True: 0, False: 0}
        for known in oracle.known():
            if len(known.closed) > 60:
                continue
            for _ in range(25):
                table = span_table(known.world)
                for _ in range(chance.randrange(1, 4)):
                    path = chance.choice(places_of(table)[1:])
                    table = replaced(table, path, functools.partial(drawn_change, chance))
                    if not isinstance(table, tuple) or not table:
                        break
                right = plain.is_right_table(known, table)
                met[right] += 1
                with self.subTest(name=known.name, table=table):
                    self.same(is_right_table(known.world, table), right)
        self.assertGreater(min(met.values()), 50)

    def test_any_order_and_wider_numbers(self):
        chance = random.Random(71)
        for known in oracle.known():
            table = list(span_table(known.world))
            chance.shuffle(table)
            self.same(is_right_table(known.world, tuple(table)), True)
            wider = [
                (lot, chance.choice([low, 0]) if len(lot) < known.points else 0, high) for lot, low, high in table
            ]
            self.same(is_right_table(known.world, tuple(wider)), plain.is_right_table(known, tuple(wider)))
            self.same(is_right_table(known.world, tuple((lot, 0, 12 - len(lot)) for lot, _, _ in table)), True)

    def test_low_and_high_one_more_and_one_less(self):
        for low, high, right in [
            (1, 2, True), (0, 2, True), (1, 3, True), (1, 12, True), (2, 2, False), (1, 1, False), (2, 3, False),
            (1, 0, False), (-1, 2, False), (1, 13, False), (True, 2, False), (False, 2, False), (1, None, False),
        ]:
            self.same(is_right_table(EXAMPLE, (((), low, high),) + TABLE[1:]), right)
        for low, high, right in [
            (1, 1, True), (0, 1, True), (0, 2, False), (1, 2, False), (2, 1, False), (1, 0, False), (True, 1, False),
            (1, True, False), (0, 0, False),
        ]:
            self.same(is_right_table(EXAMPLE, TABLE[:1] + (((4, 5), low, high),) + TABLE[2:]), right)
        # The other lots must have room for the high number of the lot of all points.
        for low, high, right in [
            (0, 0, True), (1, 0, False), (0, 1, False), (False, 0, False), (0, False, False), (0, 13, False), (0, -1, False),
        ]:
            self.same(is_right_table(EXAMPLE, TABLE[:2] + ((WHOLE, low, high),)), right)
        # The highest numbers need not have room for more.
        self.same(is_right_table(EXAMPLE, (((), 1, 12), ((4, 5), 1, 11), (WHOLE, 0, 10))), True)
        self.same(is_right_table(EXAMPLE, (((), 1, 12), ((4, 5), 1, 12), (WHOLE, 0, 10))), False)
        self.same(is_right_table(EXAMPLE, (((), 1, 12), ((4, 5), 1, 12), (WHOLE, 0, 12))), False)

    def test_the_lot_of_all_points_with_a_high_of_12(self):
        for world in (NOTHING, STILL, World(12)):
            lot = tuple(range(world.points))
            for high in range(13):
                self.same(is_right_table(world, ((lot, 0, high),)), True)
            for low, high in ((0, 13), (0, -1), (1, 1), (1, 12), (False, 0), (0, True), (0, "12"), (None, 0)):
                self.same(is_right_table(world, ((lot, low, high),)), False)
        self.same(is_right_table(ring(4), (((), 1, 12), ((0, 1, 2, 3), 0, 12))), False)
        self.same(is_right_table(ring(4), (((), 1, 12), ((0, 1, 2, 3), 0, 11))), True)

    def test_wrong_tables(self):
        self.same(is_right_table(EXAMPLE, TABLE), True)
        for value in [
            list(TABLE), TABLE[:2], TABLE[1:], TABLE[:1] + TABLE[2:], TABLE[:1], (), [], None, TABLE + TABLE[:1],
            TABLE + TABLE[2:], TABLE + (((0, 1, 2, 3), 0, 12),), TABLE + (((4,), 1, 1),), TABLE + ((),), TABLE + (None,),
            TABLE * 2, (TABLE,), TABLE[:1] + (((5, 4), 1, 1),) + TABLE[2:], TABLE[:1] + (((4, 5, 5), 1, 1),) + TABLE[2:],
            TABLE[:1] + (([4, 5], 1, 1),) + TABLE[2:], TABLE[:1] + ([(4, 5), 1, 1],) + TABLE[2:],
            TABLE[:1] + (((4, 5), 1),) + TABLE[2:], TABLE[:1] + (((4, 5), 1, 1, 1),) + TABLE[2:],
            TABLE[:1] + ((4, 5, 1, 1),) + TABLE[2:], TABLE[:1] + (((4, 6), 1, 1),) + TABLE[2:],
            TABLE[:2] + (((False, True, 2, 3, 4, 5), 0, 0),), TABLE[:2] + (((0, 1, 2, 3, 4), 0, 0),),
            TABLE[:2] + ((WHOLE + (6,), 0, 0),), TABLE[:2] + ((WHOLE + WHOLE, 0, 0),), TABLE + (((4, 5), 0, 1),),
            TABLE[:2] + ((None, 0, 0),), TABLE[:2] + (("", 0, 0),), ("one", TABLE), TABLE + TABLE[1:2] * 5000,
        ]:
            with self.subTest(value=repr(value)[:90]):
                self.same(is_right_table(EXAMPLE, value), False)

    def test_any_value(self):
        for world in (EXAMPLE, NOTHING, STILL):
            for call in (is_right_table, is_length_paper, is_verdict, is_right):
                self.check_judged_argument(functools.partial(call, world))
        self.check_judged_argument(functools.partial(is_right_table, World(6)))


class Papers(Case):

    def check_paper(self, known, value):
        word = plain.kind_of_paper(known, value)
        with self.subTest(name=known.name, value=repr(value)[:200]):
            self.same(is_length_paper(known.world, value), word == "lengths")
            self.same(is_verdict(known.world, value), word in ("one", "many"))
            self.same(is_right(known.world, value), word is not None)
            # Every right paper has the form of a paper.
            self.assertTrue(word is None or has_paper_form(value))
        return word

    def test_corpus(self):
        for known in oracle.known():
            spans = plain.spans(known)
            rows = tuple(min(row for row in known.full if len(row) == length) for length in known.lengths)
            with self.subTest(name=known.name):
                self.same(length_paper(known.world), ("lengths", rows, spans))
                self.assertEqual(self.check_paper(known, length_paper(known.world)), "lengths")
                self.same(verdict(known.world), plain.verdict(known))
                word = "one" if len(known.lengths) == 1 else "many"
                self.assertEqual(self.check_paper(known, verdict(known.world)), word)

    def test_changed_papers(self):
        chance = random.Random(72)
        met = {}
        for known in oracle.known():
            if len(known.closed) > 40:
                continue
            for paper in (length_paper(known.world), verdict(known.world)):
                for _ in range(12):
                    value = paper
                    for _ in range(chance.randrange(1, 3)):
                        if isinstance(value, tuple):
                            path = chance.choice(places_of(value))
                            value = replaced(value, path, functools.partial(drawn_change, chance))
                    word = self.check_paper(known, value)
                    met[word] = met.get(word, 0) + 1
        self.assertEqual(len(met), 4)
        self.assertGreater(min(met.values()), 5)

    def test_a_paper_of_one_world_for_another_one(self):
        chosen = [known for known in oracle.known() if len(known.closed) <= 40]
        for one in chosen[::2]:
            for other in chosen[::3]:
                for paper in (length_paper(one.world), verdict(one.world)):
                    self.check_paper(other, paper)
        self.same(is_right(THREE, verdict(EXAMPLE)), False)
        self.same(is_right(EXAMPLE, verdict(THREE)), False)
        # The same points with other moves.
        self.same(is_right(World(6, [(1, 2, 3, 0, 4, 5)]), MANY), False)
        self.same(is_right(World(3, [(1, 2, 0)]), ONE), False)
        self.same(is_right(World(3, [(1, 2, 0), (1, 0, 2)]), ONE), True)
        self.same(is_right(World(7, [(1, 2, 3, 0, 5, 4, 6)]), MANY), True)

    def test_some(self):
        self.same(verdict(EXAMPLE), MANY)
        self.same(length_paper(EXAMPLE), LENGTHS)
        self.same(verdict(THREE), ONE)
        self.same(length_paper(THREE), ("lengths", ((0, 1),), ONE[1]))
        self.same(verdict(NOTHING), ("one", (((), 0, 0),)))
        self.same(length_paper(NOTHING), ("lengths", ((),), (((), 0, 0),)))
        self.same(verdict(STILL), ("one", (((0, 1, 2), 0, 0),)))
        self.same(length_paper(STILL), ("lengths", ((),), (((0, 1, 2), 0, 0),)))

    def check_values(self, world, right, wrong, call):
        for value in right:
            with self.subTest(value=value):
                self.same(call(world, value), True)
                self.same(is_right(world, value), True)
        for value in wrong:
            with self.subTest(value=repr(value)[:90]):
                self.same(call(world, value), False)
                self.same(is_right(world, value), False)

    def test_length_papers(self):
        rows = LENGTHS[1]
        self.check_values(EXAMPLE, [
            LENGTHS, ("lengths", ((3,), (5, 1)), TABLE), ("lengths", ((1,), (4, 1)), TABLE[::-1]),
        ], [
            list(LENGTHS), LENGTHS[:2], LENGTHS + (TABLE,), ("Lengths",) + LENGTHS[1:], ("one",) + LENGTHS[1:],
            ("many",) + LENGTHS[1:], (None,) + LENGTHS[1:], ("lengths", TABLE, rows), ("lengths", list(rows), TABLE),
            ("lengths", rows[:1], TABLE), ("lengths", rows[1:], TABLE), ("lengths", rows[::-1], TABLE),
            ("lengths", (), TABLE), ("lengths", rows + rows[1:], TABLE), ("lengths", ((0,), [4, 0]), TABLE),
            ("lengths", ([0], (4, 0)), TABLE), ("lengths", ((False,), (4, 0)), TABLE), ("lengths", ((0,), (4, False)), TABLE),
            ("lengths", ((0,), (0, 4)), TABLE), ("lengths", ((4,), (4, 0)), TABLE), ("lengths", ((0,), (4, 5)), TABLE),
            ("lengths", ((0,), (4, 0, 1)), TABLE), ("lengths", ((), (0,), (4, 0)), TABLE), ("lengths", None, TABLE),
            ("lengths", ((0,), (4, 6)), TABLE), ("lengths", ((0,), None), TABLE), ("lengths", (0, 4), TABLE),
            ("lengths", rows, list(TABLE)), ("lengths", rows, TABLE[:2]), ("lengths", rows, ()), ("lengths", rows, None),
            ("lengths", rows, (((), 0, 2),) + TABLE[1:]), ("lengths", rows, (((), 1, 3),) + TABLE[1:]),
            ("lengths", rows[:1], (((), 1, 1),) + TABLE[1:]), ("lengths", rows * 100000, TABLE), MANY[:3], ("lengths",), (),
            ("lengths", "rows", TABLE), ("lengths", rows, "table"),
        ], is_length_paper)
        self.same(is_length_paper(EXAMPLE, MANY), False)
        self.same(is_length_paper(THREE, ONE), False)
        self.same(is_length_paper(THREE, ("lengths", ((2, 1),), ONE[1])), True)
        self.same(is_length_paper(THREE, ("lengths", ((0, 1),), ONE[1][:-1])), False)

    def test_verdicts_of_one_length(self):
        table = ONE[1]
        wide = (((), 2, 3),) + table[1:]
        self.check_values(THREE, [ONE, ("one", table[::-1])], [
            list(ONE), ONE[:1], ONE + (table,), ("many", table), ("lengths", table), ("One", table), (None, table),
            ("one", list(table)), ("one", table[:-1]), ("one", table[1:]), ("one", wide), ("one", (((), 1, 2),) + table[1:]),
            ("one", (((), 1, 3),) + table[1:]), ("one", (((), True, 2),) + table[1:]), ("one", ()), ("one", None), ("one",),
        ], is_verdict)
        self.same(is_right_table(THREE, wide), True)
        self.same(is_verdict(EXAMPLE, ("one", TABLE)), False)
        self.same(is_verdict(EXAMPLE, ("one", (((), 1, 1),) + TABLE[1:])), False)
        self.same(is_verdict(EXAMPLE, ("one", (((), 2, 2),) + TABLE[1:])), False)
        # For the still world the numbers of the only lot must be equal, too.
        for high in range(13):
            self.same(is_verdict(STILL, ("one", (((0, 1, 2), 0, high),))), high == 0)
            self.same(is_length_paper(STILL, ("lengths", ((),), (((0, 1, 2), 0, high),))), high == 0)

    def test_verdicts_of_many_lengths(self):
        failing, longer, shorter = MANY[1:]
        self.check_values(EXAMPLE, [
            MANY, ("many", ((), 3, 5), longer, shorter), ("many", failing, (5, 2), (2,)),
        ], [
            list(MANY), MANY[:3], MANY + (shorter,), ("one",) + MANY[1:], ("lengths",) + MANY[1:], ("Many",) + MANY[1:],
            ("many", failing, shorter, longer), ("many", failing, longer, longer), ("many", failing, shorter, shorter),
            ("many", failing, longer, (1,)), ("many", failing, [4, 0], shorter), ("many", failing, longer, [0]),
            ("many", failing, (0, 4), shorter), ("many", failing, longer, (4,)), ("many", failing, longer, ()),
            ("many", list(failing), longer, shorter), ("many", ([], 0, 4), longer, shorter),
            ("many", ((), 4, 0), longer, shorter), ("many", ((), 0, 0), longer, shorter),
            ("many", ((), False, 4), longer, shorter), ("many", ((4,), 0, 5), longer, shorter),
            ("many", ((0,), 0, 4), longer, shorter), ("many", ((0, 0), 1, 4), longer, shorter),
            ("many", ((), 0, 6), longer, shorter), ("many", None, longer, shorter), ("many", failing, None, shorter),
            ("many", failing, longer, None), ("many", failing, (4, False), shorter), ("many", failing, longer, (False,)),
            ("many", failing, (4, 6), (6,)), ("many", failing), ("many",), ("many", failing, (longer, shorter)),
            ("many", failing, longer * 12, shorter), ("many", failing, "40", "0"), ("many", (failing,), longer, shorter),
        ], is_verdict)
        self.same(is_verdict(THREE, MANY), False)

    def test_the_pair_need_not_be_that_of_the_failing(self):
        for known in oracle.known():
            if known.first_failing:
                pairs = [
                    (row, oracle.without(row, index)) for row in known.full for index in range(len(row))
                    if oracle.without(row, index) in known.full
                ]
                failings = [(held, p, q) for held in known.tight[:60] for p, q in known.pairs(held)]
                chance = random.Random(known.points)
                for _ in range(6):
                    paper = ("many", chance.choice(failings)) + chance.choice(pairs)
                    self.assertEqual(self.check_paper(known, paper), "many")

    def test_every_length_lies_between_low_and_high(self):
        for known in oracle.known():
            table = span_table(known.world)
            for row in known.full[:30]:
                for index in range(len(row) + 1):
                    low, high = next((low, high) for lot, low, high in table if lot == known.shut(row[:index]))
                    self.assertTrue(low <= len(row) - index <= high)

    def test_equal_calls(self):
        for call in (span_table, length_paper, verdict):
            for world in (EXAMPLE, THREE, World(12, oracle.SIX_SWAPS), World(12, oracle.FOUR_HUNDRED)):
                self.same(call(world), call(world))


if __name__ == "__main__":
    unittest.main()
