"""The duel: winning and losing rows, losing lots, duel values, duels as objects (points 64 to 66)."""

import functools
import itertools
import random
import unittest

from heldorder.duel import (
    Duel, allowed_locks, duel_value, is_losing_list, is_winning, losing_lots, winning_lock,
)
from heldorder.errors import GameOver, NotAllowed, NotAPoint, NothingToUndo, NotTight, TooMany
from heldorder.exchange import exchanges
from heldorder.makers import all_moves, ring, side_by_side
from heldorder.stretch import lengths
from heldorder.worlds import World
from tests import oracle
from tests.support import ANY_VALUES, NOT_WHOLE, Case, allow

EXAMPLE = World(6, [(1, 2, 3, 0, 5, 4)])
NOTHING = World(0)
STILL = World(3)
SIX = World(12, oracle.SIX_SWAPS)


@functools.lru_cache(maxsize=None)
def played(name):
    """For each tight row of a world, by playing all replies: the allowed points, the value, and who wins."""
    known = next(known for known in oracle.known() if known.name == name)
    followers = {row: [] for row in known.tight}
    for row in known.tight:
        if row:
            followers[row[:-1]].append(row)
    found = {}
    for row in reversed(known.tight):
        after = sorted(followers[row])
        values = {found[longer]["value"] for longer in after}
        found[row] = {"allowed": tuple(longer[-1] for longer in after)}
        found[row]["value"] = next(value for value in itertools.count() if value not in values)
        for last_loses in (False, True):
            losing = [longer[-1] for longer in after if not found[longer][last_loses]]
            found[row][last_loses] = bool(losing) if after else last_loses
            found[row]["lock", last_loses] = losing[0] if losing else None
    return found


def each_known():
    for known in oracle.known():
        yield known, played(known.name)


class Rows(Case):

    def test_corpus(self):
        for known, found in each_known():
            rows = list(found) if len(found) <= 120 else random.Random(known.points).sample(list(found), 120)
            for row in rows:
                for given in (row, list(row)):
                    with self.subTest(name=known.name, row=given):
                        self.same(allowed_locks(known.world, given), found[row]["allowed"])
                        self.same(duel_value(known.world, given), found[row]["value"])
                        self.same(is_winning(known.world, given), found[row][False])
                        self.same(winning_lock(known.world, given), found[row]["lock", False])
                        for last_loses in (False, True):
                            named = {"last_loses": last_loses}
                            self.same(is_winning(known.world, given, **named), found[row][last_loses])
                            self.same(winning_lock(known.world, given, **named), found[row]["lock", last_loses])

    def test_a_row_is_losing_if_its_value_is_0(self):
        for known, found in each_known():
            for row in list(found)[:40]:
                self.same(is_winning(known.world, row), duel_value(known.world, row) != 0)

    def test_the_value_of_worlds_side_by_side(self):
        chance = random.Random(66)
        worlds = [known for known in oracle.known() if known.points <= 8 and len(known.made) <= 20]
        met = set()
        for _ in range(200):
            one, other = chance.choice(worlds), chance.choice(worlds)
            if one.points + other.points <= 12 and len(one.told) + len(other.told) <= 8:
                values = duel_value(one.world, ()), duel_value(other.world, ())
                met.add(values)
                self.same(duel_value(side_by_side(one.world, other.world), ()), values[0] ^ values[1])
        self.assertGreater(len(met), 5)

    def test_if_locks_exchange_the_number_of_locks_to_come_decides(self):
        for known in oracle.known():
            if exchanges(known.world):
                for row in known.tight[:60]:
                    self.same(duel_value(known.world, row), (lengths(known.world)[0] - len(row)) % 2)

    def test_some(self):
        self.same(allowed_locks(EXAMPLE, ()), (0, 1, 2, 3, 4, 5))
        self.same(allowed_locks(EXAMPLE, [4]), (0, 1, 2, 3))
        self.same(allowed_locks(EXAMPLE, (4, 0)), ())
        self.same([duel_value(EXAMPLE, row) for row in ((), (4,), (0,), (5, 2))], [2, 1, 0, 0])
        self.same([is_winning(EXAMPLE, row) for row in ((), (4,), (0,), (5, 2))], [True, True, False, False])
        self.same(
            [is_winning(EXAMPLE, row, last_loses=True) for row in ((), (4,), (0,), (5, 2))], [True, False, True, True]
        )
        self.same(winning_lock(EXAMPLE, ()), 0)
        self.same(winning_lock(EXAMPLE, (), last_loses=True), 4)
        self.same(winning_lock(EXAMPLE, (5,)), 0)
        self.same(winning_lock(EXAMPLE, (5,), last_loses=True), None)
        self.same(winning_lock(all_moves(3), ()), None)
        self.same(winning_lock(all_moves(3), (), last_loses=True), 0)

    def test_full_rows(self):
        for world in (NOTHING, STILL):
            self.same(allowed_locks(world, ()), ())
            self.same((is_winning(world, []), is_winning(world, [], last_loses=True)), (False, True))
            self.same((winning_lock(world, ()), winning_lock(world, (), last_loses=True)), (None, None))
            self.same(duel_value(world, ()), 0)
        for row in ((0,), (3,), (4, 1), (5, 3)):
            self.same((is_winning(EXAMPLE, row), is_winning(EXAMPLE, row, last_loses=True)), (False, True))
            self.same((winning_lock(EXAMPLE, row), winning_lock(EXAMPLE, row, last_loses=True)), (None, None))
            self.same((duel_value(EXAMPLE, row), allowed_locks(EXAMPLE, row)), (0, ()))

    def test_points_that_nothing_moves_are_not_allowed(self):
        world = World(5, [(0, 2, 1, 3, 4)])
        self.same((allowed_locks(world, ()), winning_lock(world, ())), ((1, 2), 1))
        self.refused(NotTight(0), is_winning, world, [0])

    def calls(self):
        for world in (EXAMPLE, SIX, NOTHING):
            for call in (allowed_locks, duel_value, is_winning, winning_lock):
                yield world, functools.partial(call, world)
            for call in (is_winning, winning_lock):
                yield world, functools.partial(call, world, last_loses=True)

    def test_wrong_rows(self):
        for world, call in self.calls():
            if world.points:
                self.check_row_argument(allow(call, NotTight), world.points)
            else:
                self.refused(NotAPoint(0), call, [0])

    def test_rows_that_are_not_tight(self):
        for world, call in self.calls():
            if world == EXAMPLE:
                for row, index in (((0, 1), 1), ((4, 5, 0), 1), ((4, 4), 1), ((4, 0, 1), 2), ((0, 4, 5), 1)):
                    self.refused(NotTight(index), call, row)
                    self.refused(NotTight(index), call, list(row))
                # A bad entry comes before a loose one, and too many entries before both.
                self.refused(NotAPoint(6), call, (0, 0, 6))
                self.refused(NotAPoint(True), call, (0, 0, True))
                self.refused(TooMany("row", 24), call, (0,) * 24 + (6,))
                self.refused(NotTight(1), call, (0,) * 24)


class LosingLots(Case):

    def test_corpus(self):
        for known, found in each_known():
            for last_loses in (False, True):
                lots = {known.shut(row) for row in found if not found[row][last_loses]}
                lots = oracle.lot_order(lots)
                with self.subTest(name=known.name, last_loses=last_loses):
                    self.same(losing_lots(known.world, last_loses=last_loses), lots)
                    self.same(is_losing_list(known.world, lots, last_loses=last_loses), True)
                    self.same(is_losing_list(known.world, tuple(lots), last_loses=last_loses), False)
                    if not last_loses:
                        self.same(losing_lots(known.world), lots)
                        self.same(is_losing_list(known.world, lots), True)
                    if lots:
                        self.same(is_losing_list(known.world, lots[:-1], last_loses=last_loses), False)

    def test_some(self):
        whole = (0, 1, 2, 3, 4, 5)
        self.same(losing_lots(EXAMPLE), [whole])
        self.same(losing_lots(EXAMPLE, last_loses=True), [(4, 5)])
        self.same(losing_lots(STILL), [(0, 1, 2)])
        self.same(losing_lots(STILL, last_loses=True), [])
        self.same(losing_lots(NOTHING), [()])
        self.same(losing_lots(NOTHING, last_loses=True), [])
        self.same(losing_lots(all_moves(3)), [(), (0, 1, 2)])
        self.same(losing_lots(all_moves(3), last_loses=True), [(0,), (1,), (2,)])

    def test_any_value(self):
        for world, lots in ((EXAMPLE, [(4, 5)]), (STILL, []), (NOTHING, [])):
            self.check_judged_argument(lambda value: is_losing_list(world, value, last_loses=True), but=[lots])
        self.check_judged_argument(lambda value: is_losing_list(EXAMPLE, value))
        self.check_judged_argument(lambda value: is_losing_list(NOTHING, value, last_loses=False), but=[[()]])

    def test_changed_lists(self):
        world = all_moves(3)
        right = [(0,), (1,), (2,)]
        self.same(is_losing_list(world, right, last_loses=True), True)
        for value in [
            [(0,), (2,), (1,)], [(0,), (1,)], right + [(2,)], right + right, [[0], (1,), (2,)], [(0,), [1], (2,)],
            [(False,), (1,), (2,)], [(0,), (True,), (2,)], [(0, 0), (1,), (2,)], [0, 1, 2], [(0,), (1,), None],
            [(0,), (1,), "2"], [(0,), (1,), ("2",)], [(0,), (1,), ((2,),)], tuple(right), [right], None, [],
        ]:
            with self.subTest(value=value):
                self.same(is_losing_list(world, value, last_loses=True), False)
        self.same(is_losing_list(world, right), False)
        self.same(is_losing_list(world, right, last_loses=False), False)
        self.same(is_losing_list(world, [(), (0, 1, 2)]), True)
        self.same(is_losing_list(world, [(), (0, 2, 1)]), False)
        self.same(is_losing_list(world, [(0, 1, 2), ()]), False)


class Duels(Case):

    def state(self, duel):
        return duel.row, duel.turn, duel.over, duel.winner, duel.allowed, duel.best_lock()

    def test_one_from_start_to_end(self):
        duel = Duel(EXAMPLE)
        self.same(self.state(duel), ((), 0, False, None, (0, 1, 2, 3, 4, 5), 0))
        self.same(duel.lock(4), (4,))
        self.same(self.state(duel), ((4,), 1, False, None, (0, 1, 2, 3), 0))
        self.same(duel.lock(3), (4, 3))
        self.same(self.state(duel), ((4, 3), 0, True, 1, (), None))
        self.refused(GameOver(2), duel.lock, 0)
        self.same(duel.undo(), 3)
        self.same(self.state(duel), ((4,), 1, False, None, (0, 1, 2, 3), 0))
        self.same(duel.undo(), 4)
        self.same(self.state(duel), ((), 0, False, None, (0, 1, 2, 3, 4, 5), 0))
        self.refused(NothingToUndo(), duel.undo)
        self.same(duel.lock(2), (2,))
        self.same(self.state(duel), ((2,), 1, True, 0, (), None))
        self.refused(GameOver(1), duel.lock, 4)

    def test_the_last_lock_loses(self):
        duel = Duel(EXAMPLE, last_loses=True)
        self.same(self.state(duel), ((), 0, False, None, (0, 1, 2, 3, 4, 5), 4))
        self.same(duel.lock(5), (5,))
        self.same(self.state(duel), ((5,), 1, False, None, (0, 1, 2, 3), None))
        self.same(duel.lock(0), (5, 0))
        self.same(self.state(duel), ((5, 0), 0, True, 0, (), None))
        duel = Duel(EXAMPLE, last_loses=True)
        duel.lock(0)
        self.same(self.state(duel), ((0,), 1, True, 1, (), None))
        self.same(self.state(Duel(EXAMPLE, last_loses=False)), self.state(Duel(EXAMPLE)))

    def test_the_still_world(self):
        for world in (NOTHING, World(1), STILL, World(0, [()])):
            duel = Duel(world)
            self.same(self.state(duel), ((), 0, True, 1, (), None))
            self.refused(NothingToUndo(), duel.undo)
            if world.points:
                self.refused(GameOver(0), duel.lock, 0)
            self.refused(NotAPoint(world.points), duel.lock, world.points)
            self.same(self.state(Duel(world, last_loses=True)), ((), 0, True, 0, (), None))

    def test_wrong_points(self):
        for duel in (Duel(EXAMPLE), Duel(SIX)):
            points = 6 if duel.allowed[-1] == 5 else 12
            def lock(value):
                duel.lock(value)
                duel.undo()
            self.check_point_argument(lock, points)
        duel = Duel(EXAMPLE)
        duel.lock(4)
        for point in (4, 5):
            self.refused(NotAllowed(point), duel.lock, point)
        for value in NOT_WHOLE + [-1, 6, 7]:
            self.refused(NotAPoint(value), duel.lock, value)
        self.same(duel.row, (4,))
        duel.lock(0)
        # The bad point comes first, then that the duel is over.
        for value in NOT_WHOLE + [-1, 6, 7]:
            self.refused(NotAPoint(value), duel.lock, value)
        for point in range(6):
            self.refused(GameOver(2), duel.lock, point)
        self.same(self.state(duel), ((4, 0), 0, True, 1, (), None))

    def test_points_that_nothing_moves_are_not_allowed(self):
        duel = Duel(World(5, [(0, 2, 1, 3, 4)]))
        for point in (0, 3, 4):
            self.refused(NotAllowed(point), duel.lock, point)
        self.same(duel.lock(2), (2,))
        self.refused(GameOver(1), duel.lock, 3)

    def test_corpus(self):
        chance = random.Random(64)
        for known, found in each_known():
            for last_loses in (False, True):
                duel, row = Duel(known.world, last_loses=last_loses), ()
                for _ in range(12):
                    over = not found[row]["allowed"]
                    winner = (len(row) - 1) % 2 if not last_loses else len(row) % 2
                    expected = (
                        row, len(row) % 2, over, winner if over else None, found[row]["allowed"],
                        found[row]["lock", last_loses],
                    )
                    with self.subTest(name=known.name, last_loses=last_loses, row=row):
                        self.same(self.state(duel), expected)
                        if chance.random() < 0.3 and row:
                            self.same(duel.undo(), row[-1])
                            row = row[:-1]
                        elif known.points:
                            point = chance.randrange(known.points)
                            if over:
                                self.refused(GameOver(len(row)), duel.lock, point)
                            elif point not in found[row]["allowed"]:
                                self.refused(NotAllowed(point), duel.lock, point)
                            else:
                                row = row + (point,)
                                self.same(duel.lock(point), row)

    def test_whoever_can_win_wins(self):
        for known, found in each_known():
            for last_loses in (False, True):
                chance = random.Random(known.points)
                duel = Duel(known.world, last_loses=last_loses)
                sure = 0 if found[()][last_loses] else 1
                while not duel.over:
                    best = duel.best_lock()
                    self.assertEqual(best is not None, duel.turn == sure)
                    duel.lock(chance.choice(duel.allowed) if best is None else best)
                self.same(duel.winner, sure)

    def test_two_duels_by_turns(self):
        one, other, third = Duel(EXAMPLE), Duel(EXAMPLE), Duel(all_moves(4), last_loses=True)
        one.lock(4)
        third.lock(2)
        other.lock(0)
        self.same(self.state(one), ((4,), 1, False, None, (0, 1, 2, 3), 0))
        self.same(self.state(other), ((0,), 1, True, 0, (), None))
        self.same((third.row, third.allowed), ((2,), (0, 1, 3)))
        one.lock(1)
        other.undo()
        self.same(self.state(other), ((), 0, False, None, (0, 1, 2, 3, 4, 5), 0))
        self.same((one.row, third.row), ((4, 1), (2,)))
        with self.assertRaises(TypeError):
            Duel(EXAMPLE, True)

    def test_equal_calls_and_new_results(self):
        for call in (losing_lots, functools.partial(losing_lots, last_loses=True)):
            before = call(EXAMPLE)
            call(EXAMPLE).append("changed")
            self.same(call(EXAMPLE), before)
        row = [4]
        for call in (allowed_locks, duel_value, is_winning, winning_lock):
            self.same(call(EXAMPLE, row), call(EXAMPLE, (4,)))
            self.same(row, [4])
        lots = losing_lots(EXAMPLE)
        is_losing_list(EXAMPLE, lots)
        self.same(lots, losing_lots(EXAMPLE))
        self.assertEqual(len([value for value in ANY_VALUES if is_losing_list(ring(4), value)]), 0)


if __name__ == "__main__":
    unittest.main()
