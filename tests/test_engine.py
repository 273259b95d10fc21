"""Engines: edits, groups of edits, undo and redo, the version, questions, the kept paper (points 76 and 77)."""

import random
import unittest

from heldorder import errors
from heldorder.engine import Engine
from heldorder.errors import (
    BadEdit, BadNumber, NotAMove, NotAPaper, NothingKept, NothingToRedo, NothingToUndo, TooMany, UnknownName,
)
from heldorder.exchange import first_failing
from heldorder.flats import closed_lots
from heldorder.makers import all_moves
from heldorder.movetext import format_world, parse_world
from heldorder.orbits import orbits
from heldorder.papers import is_right, length_paper, verdict
from heldorder.reorder import first_bad_order
from heldorder.stretch import lengths, one_length
from heldorder.worlds import World
from tests import oracle, plain
from tests.support import ANY_VALUES, BIG, NOT_MOVES, NOT_WHOLE, Case, still

ROUND = (1, 2, 3, 0, 5, 4)
EXAMPLE = World(6, [ROUND])
SEVEN = oracle.beside(oracle.ring(7), (0, 1, 2, 3, 4))
FIVE = oracle.beside(still(7), oracle.FIVE)
THREE = oracle.beside(still(7), (1, 2, 0, 3, 4))
SMALL = (1, 0, 2)
ASKED = {
    "lengths": lengths, "one": one_length, "failing": first_failing, "closed": closed_lots, "orbits": orbits,
    "order": first_bad_order, "verdict": verdict,
}


def state(engine):
    return engine.points, engine.told, engine.version, engine.kept


class Start(Case):

    def test_some(self):
        self.same(state(Engine(6, [ROUND])), (6, [ROUND], 0, None))
        self.same(state(Engine(3)), (3, [], 0, None))
        self.same(state(Engine(points=0, moves=((), ()))), (0, [(), ()], 0, None))
        self.same(state(Engine(12, (still(12),) * 8)), (12, [still(12)] * 8, 0, None))

    def test_nothing_to_undo_redo_or_check(self):
        for engine in (Engine(0), Engine(6, [ROUND])):
            self.refused(NothingToUndo(), engine.undo)
            self.refused(NothingToRedo(), engine.redo)
            self.refused(NothingKept(), engine.check)
            self.same((engine.version, engine.kept), (0, None))

    def test_wrong_arguments(self):
        self.check_number_argument(Engine, 0, 12)
        self.check_move_list_argument(lambda moves: Engine(3, moves), 3, "told", 8)
        self.refused(BadNumber(13, 0, 12), Engine, 13, [None] * 9)
        self.refused(TooMany("made", 400), Engine, 12, [SEVEN, FIVE, THREE])
        self.same(len(Engine(12, oracle.FOUR_HUNDRED).present_world()), 400)

    def test_what_is_passed_stays_and_does_not_matter_later(self):
        moves = [SMALL]
        engine = Engine(3, moves)
        moves.append((0, 2, 1))
        moves[0] = (1, 2, 0)
        self.same(engine.told, [SMALL])
        engine.told.append((0, 2, 1))
        engine.told.clear()
        self.same(engine.told, [SMALL])
        engine.tell((0, 2, 1))
        self.same(moves, [(1, 2, 0), (0, 2, 1)])


class Edits(Case):

    def test_one_after_another(self):
        engine = Engine(3)
        self.same(engine.tell(SMALL), 1)
        self.same(engine.tell((0, 2, 1)), 2)
        self.same(engine.tell(SMALL), 3)
        self.same(state(engine), (3, [SMALL, (0, 2, 1), SMALL], 3, None))
        self.same(engine.change(0, (1, 2, 0)), 3)
        self.same(engine.drop(1), 2)
        self.same(state(engine), (3, [(1, 2, 0), SMALL], 5, None))
        self.same(engine.change(index=1, move=(0, 1, 2)), 2)
        self.same(engine.drop(index=0), 1)
        self.same(engine.tell(move=SMALL), 2)
        self.same(state(engine), (3, [(0, 1, 2), SMALL], 8, None))
        self.same(engine.present_world().told, [(0, 1, 2), SMALL])

    def unchanged(self, expected, engine, call, *args, **named):
        before = state(engine)
        self.refused(expected, call, *args, **named)
        self.same(state(engine), before)

    def test_tell_refusals_in_order(self):
        for points in (0, 3, 12):
            engine = Engine(points)
            self.check_move_argument(engine.tell, 0, points)
            self.same(state(engine), (points, [], 0, None))
        engine = Engine(2, [(1, 0)] * 7)
        self.same(engine.tell((0, 1)), 8)
        self.unchanged(TooMany("told", 8), engine, engine.tell, (0, 1))
        for value in NOT_MOVES + [(0,), (0, 1, 2)]:
            self.unchanged(NotAMove(0), engine, engine.tell, value)
        # Eight told moves already: how many the ninth would make is not looked at.
        full = Engine(12, [SEVEN, FIVE] + [still(12)] * 6)
        self.unchanged(TooMany("told", 8), full, full.tell, THREE)
        engine = Engine(12, [SEVEN, FIVE])
        self.unchanged(TooMany("made", 400), engine, engine.tell, THREE)
        self.same(engine.tell(SEVEN), 3)
        engine = Engine(12, oracle.FOUR_HUNDRED)
        self.same(engine.tell(oracle.FOUR_HUNDRED[0]), 5)
        self.unchanged(TooMany("made", 400), engine, engine.tell, oracle.by_steps(12, (10, 11)))

    def test_drop_refusals(self):
        engine = Engine(3)
        for value in NOT_WHOLE + [-2, -1, 0, 1, BIG, -BIG]:
            self.unchanged(BadNumber(value, 0, -1), engine, engine.drop, value)
        for many in (1, 2, 8):
            engine = Engine(3, [SMALL] * many)
            for value in NOT_WHOLE + [-1, many, many + 1, -many, BIG, -BIG]:
                self.unchanged(BadNumber(value, 0, many - 1), engine, engine.drop, value)
            for index in range(many):
                told = [SMALL] * many
                told[index] = (0, 2, 1)
                engine = Engine(3, told)
                self.same(engine.drop(index), many - 1)
                self.same(engine.told, [SMALL] * (many - 1))

    def test_change_refusals_in_order(self):
        engine = Engine(3)
        for value in NOT_WHOLE + [-1, 0, 1, BIG]:
            self.unchanged(BadNumber(value, 0, -1), engine, engine.change, value, SMALL)
            self.unchanged(BadNumber(value, 0, -1), engine, engine.change, value, None)
        engine = Engine(3, [SMALL, (0, 2, 1)])
        for value in NOT_WHOLE + [-1, 2, 3, -2, BIG]:
            self.unchanged(BadNumber(value, 0, 1), engine, engine.change, value, SMALL)
            self.unchanged(BadNumber(value, 0, 1), engine, engine.change, value, (0, 0, 0))
        for value in NOT_MOVES + [(), (1, 0), still(4)]:
            for index in (0, 1):
                self.unchanged(NotAMove(0), engine, engine.change, index, value)
        # Eight told moves are no hindrance.
        engine = Engine(2, [(1, 0)] * 8)
        self.same(engine.change(7, (0, 1)), 8)
        self.same(engine.told, [(1, 0)] * 7 + [(0, 1)])
        engine = Engine(12, [SEVEN, FIVE, still(12)])
        self.unchanged(TooMany("made", 400), engine, engine.change, 2, THREE)
        self.same(engine.change(0, THREE), 3)
        self.unchanged(TooMany("made", 400), engine, engine.change, 2, SEVEN)
        self.unchanged(BadNumber(3, 0, 2), engine, engine.change, 3, SEVEN)
        self.same(engine.told, [THREE, FIVE, still(12)])
        engine = Engine(12, oracle.FOUR_HUNDRED)
        self.same(engine.change(1, oracle.FOUR_HUNDRED[1]), 4)
        self.unchanged(TooMany("made", 400), engine, engine.change, 3, oracle.by_steps(12, (10, 11), (5, 6)))


class Groups(Case):

    def unchanged(self, expected, engine, edits):
        before = state(engine)
        self.refused(expected, engine.edit_all, edits)
        self.same(state(engine), before)

    def test_one_group_is_one_edit(self):
        for kind in (list, tuple):
            engine = Engine(3)
            edits = kind([("tell", SMALL), ("tell", (0, 2, 1)), ("change", 0, (1, 2, 0)), ("drop", 1), ("tell", SMALL)])
            self.same(engine.edit_all(edits), 2)
            self.same(state(engine), (3, [(1, 2, 0), SMALL], 1, None))
            self.same(engine.undo(), 0)
            self.same(state(engine), (3, [], 2, None))
            self.same(engine.redo(), 2)
            self.same(state(engine), (3, [(1, 2, 0), SMALL], 3, None))

    def test_the_empty_group(self):
        for kind in (list, tuple):
            engine = Engine(3, [SMALL])
            self.same(engine.edit_all(kind([])), 1)
            self.refused(NothingToUndo(), engine.undo)
            engine.tell(SMALL)
            engine.undo()
            self.same(engine.edit_all(edits=kind([])), 1)
            self.same(state(engine), (3, [SMALL], 2, None))
            self.same(engine.redo(), 2)

    def test_a_group_that_changes_nothing_counts(self):
        engine = Engine(3, [SMALL])
        self.same(engine.edit_all([("change", 0, SMALL)]), 1)
        self.same(state(engine), (3, [SMALL], 1, None))
        self.same(engine.edit_all([("tell", SMALL), ("drop", 1)]), 1)
        self.same(state(engine), (3, [SMALL], 2, None))
        engine.undo()
        engine.undo()
        self.refused(NothingToUndo(), engine.undo)
        self.same(engine.edit_all([("tell", SMALL), ("drop", 0)]), 1)
        self.refused(NothingToRedo(), engine.redo)

    def test_40_and_41_edits(self):
        for kind in (list, tuple):
            engine = Engine(2, [(1, 0)])
            self.same(engine.edit_all(kind([("change", 0, (0, 1))] * 40)), 1)
            self.same(state(engine), (2, [(0, 1)], 1, None))
            self.unchanged(TooMany("edits", 40), engine, kind([("change", 0, (0, 1))] * 41))
            self.unchanged(TooMany("edits", 40), engine, kind([None] * 41))
            self.unchanged(TooMany("edits", 40), engine, kind([("drop", 5)] * 200))

    def test_bad_edits(self):
        bad = [
            None, 0, True, "tell", "", (), [], ("tell",), ("drop",), ("change",), ("change", 0), ("tell", 0, SMALL),
            ("tell", SMALL, SMALL), ("drop", 0, 0), ("change", 0, SMALL, SMALL), ["tell", SMALL], ["drop", 0],
            ["change", 0, SMALL], ("Tell", SMALL), ("tell ", SMALL), ("add", SMALL), (None, SMALL), (0, SMALL), ((), SMALL),
            (SMALL, "tell"), (0, "drop"), ("undo",), ("redo", 0), ("tell drop", 0), (("tell", SMALL),), ("", 0),
            ("change", SMALL), ("drop", 0, SMALL), ("redo", 0, SMALL), (True, 0), ("tell", 0, 0, 0),
        ] + [value for value in ANY_VALUES if not isinstance(value, tuple)]
        for value in bad:
            engine = Engine(3, [SMALL])
            with self.subTest(value=repr(value)[:60]):
                self.unchanged(BadEdit(0), engine, [value])
                self.unchanged(BadEdit(1), engine, (("tell", SMALL), value))
                self.unchanged(BadEdit(39), engine, [("change", 0, SMALL)] * 39 + [value])
                self.unchanged(BadEdit(1), engine, [("drop", 0), value, None, ("drop", 7)])

    def test_errors_of_later_edits_leave_all_as_it_was(self):
        engine = Engine(3, [SMALL])
        engine.tell((0, 2, 1))
        engine.undo()
        self.unchanged(NotAMove(0), engine, [("tell", SMALL), ("tell", SMALL), ("tell", (0, 1))])
        self.unchanged(NotAMove(0), engine, [("tell", SMALL), ("change", 1, None)])
        self.unchanged(BadNumber(2, 0, 1), engine, [("tell", SMALL), ("change", 2, None)])
        self.unchanged(BadNumber(0, 0, -1), engine, [("drop", 0), ("drop", 0)])
        self.unchanged(BadNumber(None, 0, 0), engine, [("drop", None)])
        self.unchanged(BadNumber(True, 0, 1), engine, [("tell", SMALL), ("drop", True)])
        self.unchanged(TooMany("told", 8), engine, [("tell", SMALL)] * 8)
        self.same(engine.redo(), 2)

    def test_each_edit_is_wholly_checked_before_the_next_one(self):
        engine = Engine(12, [SEVEN, FIVE])
        # The limits of an earlier edit come before a bad form or a bad move further behind.
        self.unchanged(TooMany("made", 400), engine, [("tell", THREE), ("drop", 0)])
        self.unchanged(TooMany("made", 400), engine, [("tell", THREE), None])
        self.unchanged(TooMany("made", 400), engine, [("change", 0, SEVEN), ("tell", THREE), ("tell", None)])
        self.unchanged(NotAMove(0), engine, [("tell", None), ("tell", THREE)])
        self.same(engine.edit_all([("drop", 0), ("tell", THREE)]), 2)
        engine = Engine(2, [(1, 0)] * 8)
        self.unchanged(TooMany("told", 8), engine, [("tell", (1, 0)), ("drop", 0)])
        self.unchanged(TooMany("told", 8), engine, [("tell", (1, 0)), "bad"])
        self.same(engine.edit_all([("drop", 0), ("tell", (0, 1))]), 8)
        self.same(engine.told, [(1, 0)] * 7 + [(0, 1)])

    def test_lists_that_are_changed_afterwards(self):
        engine = Engine(3)
        edits = [("tell", SMALL)]
        engine.edit_all(edits)
        edits.append(("tell", (0, 2, 1)))
        edits[0] = None
        self.same(engine.told, [SMALL])
        engine.undo()
        engine.redo()
        self.same(engine.told, [SMALL])
        self.same(edits, [None, ("tell", (0, 2, 1))])


class UndoAndRedo(Case):

    def test_there_and_back(self):
        engine = Engine(3, [SMALL])
        engine.tell((0, 2, 1))
        engine.change(0, (1, 2, 0))
        engine.drop(1)
        self.same(engine.undo(), 2)
        self.same(engine.told, [(1, 2, 0), (0, 2, 1)])
        self.same(engine.undo(), 2)
        self.same(engine.told, [SMALL, (0, 2, 1)])
        self.same(engine.undo(), 1)
        self.same(engine.told, [SMALL])
        self.refused(NothingToUndo(), engine.undo)
        self.same(engine.version, 6)
        self.same([engine.redo(), engine.redo(), engine.redo()], [2, 2, 1])
        self.same(state(engine), (3, [(1, 2, 0)], 9, None))
        self.refused(NothingToRedo(), engine.redo)
        self.same(engine.undo(), 2)

    def test_what_makes_redo_impossible(self):
        for edit in (
            lambda engine: engine.tell(SMALL), lambda engine: engine.drop(0), lambda engine: engine.change(0, SMALL),
            lambda engine: engine.edit_all([("tell", SMALL)]), lambda engine: engine.edit_all([("change", 0, SMALL)]),
        ):
            engine = Engine(3, [SMALL])
            engine.tell((0, 2, 1))
            engine.tell((0, 2, 1))
            engine.undo()
            engine.undo()
            edit(engine)
            self.refused(NothingToRedo(), engine.redo)
            self.same(engine.undo(), 1)
            self.same(engine.told, [SMALL])
            self.refused(NothingToUndo(), engine.undo)

    def test_what_leaves_redo_possible(self):
        engine = Engine(3, [SMALL])
        engine.tell((0, 2, 1))
        engine.undo()
        for call in (
            lambda: engine.tell(None), lambda: engine.drop(1), lambda: engine.change(0, None), lambda: engine.undo(),
            lambda: engine.edit_all([None]), lambda: engine.edit_all([("tell", SMALL), ("drop", 9)]),
            lambda: engine.ask("x"), lambda: engine.take(0), lambda: engine.check(),
        ):
            with self.assertRaises(errors.HeldorderError):
                call()
        engine.edit_all([])
        engine.keep()
        engine.take(("one", ()))
        engine.check()
        engine.ask("verdict")
        engine.present_world()
        self.same(engine.version, 2)
        self.same(engine.redo(), 2)
        self.same(engine.told, [SMALL, (0, 2, 1)])

    def test_200_edits(self):
        engine = Engine(2)
        for many in range(100):
            engine.tell((1, 0))
            engine.drop(0)
        self.same(state(engine), (2, [], 200, None))
        self.same([engine.undo() for _ in range(200)], [1, 0] * 100)
        self.refused(NothingToUndo(), engine.undo)
        self.same([engine.redo() for _ in range(200)], [1, 0] * 100)
        self.same(engine.version, 600)

    def drawn_edit(self, chance, points, moves):
        move = chance.choice(moves) if chance.random() < 0.95 else chance.choice([None, (0,), still(points + 1), [0, 1]])
        index = chance.choice([-1, 0, 0, 0, 1, 1, 2, 3, 4, 5, 6, 7, 8, True, None])
        return chance.choice([("tell", move), ("tell", move), ("drop", index), ("change", index, move)])

    def test_drawn_sequences(self):
        chance = random.Random(77)
        for round in range(60):
            points = chance.choice([0, 2, 3, 4, 7])
            moves = [still(points)]
            if points > 1:
                moves += [oracle.drawn_move(chance, points) for _ in range(4)]
            engine, slow = Engine(points), plain.Engine(points)
            for _ in range(40):
                kind = chance.randrange(8)
                if kind < 4:
                    edit = self.drawn_edit(chance, points, moves)
                    expected, call = slow.edit_all([edit]), getattr(engine, edit[0])
                    arguments = edit[1:]
                elif kind < 6:
                    edits = [self.drawn_edit(chance, points, moves) for _ in range(chance.randrange(4))]
                    expected, call, arguments = slow.edit_all(edits), engine.edit_all, (edits,)
                else:
                    by = chance.choice([-1, 1])
                    expected, call, arguments = slow.step(by), engine.undo if by < 0 else engine.redo, ()
                with self.subTest(round=round, call=call.__name__, arguments=arguments):
                    if isinstance(expected, errors.HeldorderError):
                        self.refused(expected, call, *arguments)
                    else:
                        self.same(call(*arguments), expected)
                    self.same(state(engine), (points, slow.told, slow.version, None))
            self.same(engine.present_world().made, oracle.made(points, slow.told))


class Questions(Case):

    def test_corpus(self):
        for known in oracle.known()[::3]:
            engine = Engine(known.points, known.told)
            for name, function in ASKED.items():
                with self.subTest(world=known.name, name=name):
                    self.same(engine.ask(name), function(known.world))
            self.same(engine.version, 0)

    def test_the_present_world_counts(self):
        engine = Engine(6)
        self.same([engine.ask(name) for name in ASKED], [
            [0], True, None, [(0, 1, 2, 3, 4, 5)], [(0,), (1,), (2,), (3,), (4,), (5,)], None,
            ("one", (((0, 1, 2, 3, 4, 5), 0, 0),)),
        ])
        engine.tell(ROUND)
        self.same([engine.ask(name=name) for name in ASKED], [
            [1, 2], False, ((), 0, 4), [(), (4, 5), (0, 1, 2, 3, 4, 5)], [(0, 1, 2, 3), (4, 5)], ((4, 0), (0, 4), 1),
            ("many", ((), 0, 4), (4, 0), (0,)),
        ])
        engine.undo()
        self.same(engine.ask("lengths"), [0])

    def test_unknown_names(self):
        engine = Engine(6, [ROUND])
        for name in ("", "length", "Lengths", "lengths ", " one", "keep", "rows", "first_failing", "one_length", "0", "\n"):
            self.refused(UnknownName(name), engine.ask, name)

    def test_new_results(self):
        engine = Engine(6, [ROUND])
        for name in ("lengths", "closed", "orbits"):
            before = engine.ask(name)
            engine.ask(name).clear()
            self.same(engine.ask(name), before)

    def test_the_text_of_the_world(self):
        engine = Engine(6, [ROUND])
        engine.edit_all([("tell", still(6)), ("tell", (1, 0, 2, 3, 4, 5)), ("change", 0, ROUND)])
        text = format_world(engine.points, engine.told)
        self.same(text, "points 6\nmove (0 1 2 3)(4 5)\nmove ()\nmove (0 1)\n")
        again = Engine(*parse_world(text))
        self.same(again.told, engine.told)
        self.assertTrue(again.present_world() == engine.present_world())

    def test_present_world(self):
        engine = Engine(3, [SMALL])
        world = engine.present_world()
        self.assertIs(type(world), World)
        self.same((world.points, world.told), (3, [SMALL]))
        self.assertIsNot(engine.present_world(), world)
        engine.tell((0, 2, 1))
        self.same((world.told, len(world), len(engine.present_world())), ([SMALL], 2, 6))
        world.told.clear()
        self.same(engine.told, [SMALL, (0, 2, 1)])


class Papers(Case):

    def test_keep(self):
        engine = Engine(6, [ROUND])
        paper = engine.keep()
        self.same(paper, ("many", ((), 0, 4), (4, 0), (0,)))
        self.same(state(engine), (6, [ROUND], 0, paper))
        self.same(engine.check(), True)
        engine.drop(0)
        self.same((engine.kept, engine.check()), (paper, False))
        self.same(engine.keep(), ("one", (((0, 1, 2, 3, 4, 5), 0, 0),)))
        self.same(engine.check(), True)
        engine.undo()
        self.same((engine.kept[0], engine.check()), ("one", False))
        engine.redo()
        self.same((engine.kept[0], engine.check()), ("one", True))
        self.same(engine.version, 3)

    def test_take(self):
        engine = Engine(6, [ROUND])
        for paper, right in (
            (length_paper(EXAMPLE), True), (verdict(EXAMPLE), True), (verdict(all_moves(3)), False), (("one", ()), False),
            (("many", ((11,), 11, 11), (), ()), False), (("lengths", (), ()), False),
        ):
            self.same(engine.take(paper), None)
            self.same(engine.kept, paper)
            self.same(engine.check(), right)
        self.same(engine.take(value=("one", ())), None)
        self.same(engine.version, 0)

    def test_no_papers(self):
        for value in ANY_VALUES + [("one",), ["one", ()], ("one", (((), 0, 13),)), "one\n"]:
            with self.subTest(value=repr(value)[:60]):
                engine = Engine(3)
                self.refused(NotAPaper(), engine.take, value)
                self.same(engine.kept, None)
                self.refused(NothingKept(), engine.check)
                engine.take(("one", ()))
                self.refused(NotAPaper(), engine.take, value)
                self.same(engine.kept, ("one", ()))

    def test_corpus(self):
        for known in oracle.known()[::2]:
            engine = Engine(known.points, known.told)
            self.same(engine.keep(), verdict(known.world))
            self.same(engine.check(), True)
            for index in range(len(known.told)):
                engine.drop(index)
                made = oracle.made(known.points, known.told[:index] + known.told[index + 1:])
                if made == known.made:
                    self.same(engine.check(), True)
                self.same(engine.check(), is_right(engine.present_world(), engine.kept))
                engine.undo()
            self.same(engine.check(), True)

    def test_two_engines_by_turns(self):
        one, other = Engine(6, [ROUND]), Engine(6, [ROUND])
        one.drop(0)
        other.keep()
        self.same((state(one), state(other)[:3]), ((6, [], 1, None), (6, [ROUND], 0)))
        self.refused(NothingKept(), one.check)
        self.refused(NothingToUndo(), other.undo)
        other.tell(still(6))
        one.undo()
        self.same((one.told, one.version, other.told, other.version), ([ROUND], 2, [ROUND, still(6)], 1))
        self.refused(NothingToRedo(), other.redo)
        self.same(one.redo(), 0)
        self.same(other.check(), True)


if __name__ == "__main__":
    unittest.main()
