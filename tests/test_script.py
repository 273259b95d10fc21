"""Scripts: their lines, the checks in their order, the commands and their answers (points 78 to 81)."""

import random
import unittest

from heldorder.errors import TooMany
from heldorder.movetext import format_move
from heldorder.script import run_script
from tests import oracle, plain
from tests.support import Case, still

EXAMPLE = "points 6\ntell (0 1 2 3)(4 5)\n"
ALONE = ["undo", "redo", "size", "orbits", "lengths", "one", "failing", "pair", "keep", "check"]
WITH_NUMBER = ["points", "drop", "row"]
WITH_ROW = ["closure", "tight", "full", "complete", "duel"]
COMMANDS = ALONE + WITH_NUMBER + WITH_ROW + ["tell", "change"]
NO_NUMBERS = ["", "00", "01", "007", "1000", "0000", "-1", "+1", "1.0", "x", "1x", "(1)", "1,", "0x1", "1_0", "12345678901234"]


class Scripts(Case):

    def answers(self, text, start=EXAMPLE):
        """The answers to the lines of the text behind the start."""
        return run_script(start + text)[start.count("\n"):]

    def answer(self, line, start=EXAMPLE):
        answers = self.answers(line + "\n", start)
        self.assertEqual(len(answers), 1)
        return answers[0]


class Lines(Scripts):

    def test_example(self):
        text = "points 6\ntell (0 1 2 3)(4 5)\nlengths\nfailing\ntight 4 5 0\nrow 3\nsize "
        self.same(run_script(text), [
            "points 6", "told 1", "lengths 1 2", "failing () 0 4", "tight no 1", "error NoSuchLength", "error BadText",
        ])

    def test_the_last_line_feed(self):
        self.same(run_script(""), [])
        self.same(run_script("\n"), ["error BadText"])
        self.same(run_script("\n\n"), ["error BadText"] * 2)
        self.same(run_script("points 3"), ["points 3"])
        self.same(run_script("points 3\n"), ["points 3"])
        self.same(run_script("points 3\n\n"), ["points 3", "error BadText"])
        self.same(run_script("\npoints 3"), ["error BadText", "points 3"])
        self.same(run_script("points 3\n\n\nsize"), ["points 3", "error BadText", "error BadText", "size 1"])
        self.same(run_script("points 3\nsize\n "), ["points 3", "size 1", "error BadText"])

    def test_60_and_61_lines(self):
        for line, answer in (("points 3", "points 3"), ("", "error BadText"), ("x", "error BadText"), ("size", "error NoWorld")):
            self.same(run_script((line + "\n") * 60), [answer] * 60)
            if line:
                self.same(run_script((line + "\n") * 59 + line), [answer] * 60)
                self.refused(TooMany("lines", 60), run_script, (line + "\n") * 60 + line)
            self.refused(TooMany("lines", 60), run_script, (line + "\n") * 61)
        self.refused(TooMany("lines", 60), run_script, "\n" * 6000)
        self.refused(TooMany("lines", 60), run_script, "points 3\n" * 60 + " ")
        self.same(len(run_script("\n" * 60)), 60)

    def test_empty_words(self):
        for line in (" ", "  ", " size", "size ", "size  ", "  size", " points 3", "points 3 ", "points  3", "points "):
            self.same(self.answer(line), "error BadText")
            self.same(self.answer(line, start=""), "error NoWorld" if line.startswith("size") else "error BadText")
        for word in WITH_ROW:
            for more in (" ", "  ", " 4 ", "  4", " 4  5", " 4 5 ", " 4 5  ", "   "):
                self.same(self.answer(word + more), "error BadText")
        for line in ("tell ", "tell  ()", " tell ()", "tell () ", "change ", "change  0 ()", "change 0  ()", "change 0 () "):
            self.same(self.answer(line), "error BadText")

    def test_unknown_commands(self):
        for line in ("x", "Size", "SIZE", "sizes", "siz", "size,", "tell()", "points3", "(0 1)", "0", "error", "quit 3", "told 1"):
            self.same(self.answer(line), "error BadText")
            # That the command is known is looked at before that there is a world.
            self.same(self.answer(line, start=""), "error BadText")
            self.same(self.answer(line + " 3", start=""), "error BadText")

    def test_no_world(self):
        for word in COMMANDS:
            if word != "points":
                for more in ("", " ", " 3", " 0 ()", " x", " ()", " 1000"):
                    # That there is a world is looked at before the form.
                    self.same(self.answer(word + more, start=""), "error NoWorld")
                    self.same(self.answer(word + more, start="points 13\n"), "error NoWorld")
                    self.same(self.answer(word + more, start="points x\n"), "error NoWorld")

    def test_the_four_checks_in_order(self):
        self.same(run_script("wrong 13\ndrop x\npoints x\npoints 13\npoints 2\ndrop x\ndrop 0\nchange 0 (\nchange 0 ()"), [
            "error BadText", "error NoWorld", "error BadText", "error BadNumber", "points 2", "error BadText",
            "error BadNumber", "error BadText", "error BadNumber",
        ])

    def test_nothing_changes_by_an_error(self):
        bad = ["tell", "tell (0 6)", "drop 1", "change 1 ()", "change 0 x", "undo ", "redo", "redo 1", "points 13", "points 01"]
        self.same(self.answers("undo\nredo\n" + "\n".join(bad[:6]) + "\nsize\nundo\nredo\nlengths"), [
            "told 0", "told 1"] + ["error BadText", "error BadText", "error BadNumber", "error BadNumber", "error BadText"]
            + ["error BadText", "size 4", "told 0", "told 1", "lengths 1 2"])
        self.same(self.answers("\n".join(bad[6:]) + "\nsize\nlengths"), [
            "error NothingToRedo", "error BadText", "error BadNumber", "error BadText", "size 4", "lengths 1 2"])

    def test_long_lines(self):
        self.same(run_script("x" * 6000), ["error BadText"])
        self.same(self.answer("tell (" + "0 " * 2900 + "0)"), "error BadText")
        self.same(self.answer("tell " + "()" * 2900), "error BadText")
        self.same(self.answer("change 0 " + "(" * 5900), "error BadText")
        self.same(self.answer("closure" + " 0" * 2900), "error TooMany")
        self.same(self.answer("closure" + " 999" * 1400), "error TooMany")
        self.same(self.answer("closure " + "9" * 5900), "error BadText")


class Commands(Scripts):

    def test_numbers(self):
        for word in WITH_NUMBER:
            for number in NO_NUMBERS:
                self.same(self.answer(f"{word} {number}"), "error BadText")
            for more in ("", " 1 2", " 1 1", " ()", " 1 ()", " x 1"):
                self.same(self.answer(word + more), "error BadText")
            for number in ("13", "99", "100", "999"):
                self.same(self.answer(f"{word} {number}"), "error BadNumber")
        for word in WITH_ROW:
            for number in NO_NUMBERS:
                self.same(self.answer(f"{word} {number}"), "error BadText")
                self.same(self.answer(f"{word} 0 {number}"), "error BadText")
                # The form comes before the points and their number.
                self.same(self.answer(f"{word} 999 {number}"), "error BadText")
                self.same(self.answer(f"{word}{' 0' * 30} {number}"), "error BadText")
            for number in (6, 7, 12, 13, 99, 100, 999):
                self.same(self.answer(f"{word} {number}"), "error NotAPoint")
                self.same(self.answer(f"{word} 0 {number}"), "error NotAPoint")
        for number in NO_NUMBERS:
            self.same(self.answer(f"change {number} ()"), "error BadText")
        for number in (1, 9, 10, 99, 100, 999):
            self.same(self.answer(f"change {number} ()"), "error BadNumber")

    def test_commands_that_stand_alone(self):
        for word in ALONE:
            for more in (" ", " 0", " x", "  ", " ()", " " + word, " 0 1"):
                self.same(self.answer(word + more), "error BadText")

    def test_points(self):
        for number in range(13):
            self.same(run_script(f"points {number}\nsize\norbits\nlengths\nundo\ncheck"), [
                f"points {number}", "size 1",
                "orbits " + ("".join(f"({p})" for p in range(number)) if number else "-"),
                "lengths 0", "error NothingToUndo", "error NothingKept",
            ])

    def test_points_anew(self):
        self.same(self.answers("keep\nundo\npoints 6\nredo\nundo\ncheck\nsize\ntell (0 1 2 3)(4 5)\ncheck\nundo"), [
            "kept many", "told 0", "points 6", "error NothingToRedo", "error NothingToUndo", "error NothingKept", "size 1",
            "told 1", "error NothingKept", "told 0",
        ])
        # A number that is too great, or none, leaves the old engine as it is.
        self.same(self.answers("keep\npoints 13\ncheck\npoints 06\nsize\npoints\nundo\npoints 1000\nredo"), [
            "kept many", "error BadNumber", "check yes", "error BadText", "size 4", "error BadText", "told 0",
            "error BadText", "told 1",
        ])
        self.same(self.answers("points 2\ntell (0 1 2 3)(4 5)\ntell (0 1)\nlengths"), [
            "points 2", "error BadText", "told 1", "lengths 1",
        ])

    def test_edits(self):
        self.same(run_script(
            "points 3\ntell (0 1)\ntell (0 1 2)\ntell ()\ntell (0 2)\ndrop 2\nchange 0 (1 2)\norbits\nsize\ndrop 1\nundo\nundo\n"
            "redo\nredo\nredo\ndrop 0\ndrop 0\ndrop 0\nchange 0 ()\nsize"
        ), [
            "points 3", "told 1", "told 2", "told 3", "told 4", "told 3", "told 3", "orbits (0 1 2)", "size 6", "told 2",
            "told 3", "told 3", "told 3", "told 2", "error NothingToRedo", "told 1", "told 0", "error BadNumber",
            "error BadNumber", "size 1",
        ])

    def test_moves(self):
        for move in (
            "", "(", ")", "()()", "(0)", "(0 1", "0 1)", "0 1", "(1 0)", "(0 1)(2)", "(0 1)()", "(0 1) (2 3)", "(2 3)(0 1)",
            "(0 1)(1 2)", "(0 0)", "(0  1)", "( 0 1)", "(0 1 )", "(00 1)", "(01 2)", "(0 01)", "(0,1)", "(a b)", "(0 6)", "(5 6)",
            "(0 1 2 3 4 5 6)", "(0 -1)", "((0 1))", "() ", " ()", "(0 1)x", "x(0 1)", "1 (0 1)", "[0 1]", "(0 12)",
            "(0 1 2 0)", "(1 2 0)", "move (0 1)", "(0 100)",
        ):
            with self.subTest(move=move):
                self.same(self.answer(f"tell {move}"), "error BadText")
                self.same(self.answer(f"change 0 {move}"), "error BadText")
                # The form comes before the index.
                self.same(self.answer(f"change 7 {move}"), "error BadText")
                self.same(self.answer(f"change 0 {move}", start="points 6\n"), "error BadText")
        self.same(self.answer("tell"), "error BadText")
        self.same(self.answer("change 0"), "error BadText")
        self.same(self.answer("change (0 1)"), "error BadText")
        self.same(self.answer("change 0 0 (0 1)"), "error BadText")
        self.same(self.answer("change () 0"), "error BadText")
        for move in ("()", "(0 1)", "(0 5)", "(0 2)(1 3)", "(0 3 1 2)(4 5)", "(0 5 4 3 2 1)", "(4 5)"):
            self.same(self.answer(f"tell {move}"), "told 2")
            self.same(self.answer(f"change 0 {move}"), "told 1")
            self.same(self.answer(f"change 0 {move}", start="points 6\n"), "error BadNumber")
        self.same(run_script("points 0\ntell ()\ntell (0)\ntell (0 1)\nsize"), [
            "points 0", "told 1", "error BadText", "error BadText", "size 1",
        ])
        self.same(run_script("points 1\ntell (0 1)\npoints 2\ntell (0 1)\npoints 12\ntell (0 11)\ntell (0 12)"), [
            "points 1", "error BadText", "points 2", "told 1", "points 12", "told 1", "error BadText",
        ])

    def test_too_many(self):
        self.same(run_script("points 2\n" + "tell (0 1)\n" * 9 + "change 7 ()\ndrop 7\ntell ()\ntell ()"), [
            "points 2"] + [f"told {many}" for many in range(1, 9)] + ["error TooMany", "told 8", "told 7", "told 8", "error TooMany"])
        self.same(run_script(
            "points 12\ntell (0 1 2 3 4 5 6)\ntell (7 8 9 10 11)\ntell (7 8 9)\nsize\nchange 0 (7 8 9)\nsize\n"
            "change 1 (0 1 2 3 4 5 6)\nchange 0 (0 1 2 3 4 5 6)\nsize"
        ), [
            "points 12", "told 1", "told 2", "error TooMany", "size 35", "told 2", "size 60", "told 2", "told 2", "size 7",
        ])
        self.same(run_script(
            "points 12\ntell (0 1 2 3 4)\ntell (1 2 4 3)\ntell (5 6 7 8 9)\ntell (6 7 9 8)\nsize\ntell (10 11)\n"
            "change 0 (0 1)\nundo\nsize"
        ), [
            "points 12", "told 1", "told 2", "told 3", "told 4", "size 400", "error TooMany", "error TooMany", "told 3",
            "size 100",
        ])
        for word in WITH_ROW:
            self.same(self.answer(word + " 0" * 25), "error TooMany")
            self.same(self.answer(word + " 999" * 25), "error TooMany")
            self.same(self.answer(word + " 0" * 24 + " 6"), "error TooMany")
            self.same(self.answer(word + " 0" * 23 + " 6"), "error NotAPoint")
        self.same(self.answers("\n".join(word + " 0" * 24 for word in WITH_ROW)), [
            "closure (0 1 2 3 4 5)", "tight no 1", "full yes", "complete (" + " ".join(["0"] * 24) + ")", "error NotTight",
        ])

    def test_size_and_orbits(self):
        self.same(self.answers("size\norbits"), ["size 4", "orbits (0 1 2 3)(4 5)"])
        self.same(run_script("points 4\ntell (0 3)\norbits\nsize"), ["points 4", "told 1", "orbits (0 3)(1)(2)", "size 2"])
        self.same(run_script("points 0\norbits\nsize"), ["points 0", "orbits -", "size 1"])
        self.same(run_script("points 1\norbits"), ["points 1", "orbits (0)"])

    def test_rows(self):
        self.same(self.answers("closure\nclosure 4\nclosure 0\nclosure 5 5"), [
            "closure ()", "closure (4 5)", "closure (0 1 2 3 4 5)", "closure (4 5)",
        ])
        self.same(self.answers("tight\ntight 4\ntight 4 0\ntight 0 4\ntight 4 5 0\ntight 4 4 4\ntight 4 1 5"), [
            "tight yes", "tight yes", "tight yes", "tight no 1", "tight no 1", "tight no 1", "tight no 2",
        ])
        self.same(self.answers("full\nfull 4\nfull 0\nfull 4 5\nfull 4 1"), [
            "full no", "full no", "full yes", "full no", "full yes",
        ])
        self.same(self.answers("complete\ncomplete 4\ncomplete 5 4 5\ncomplete 3"), [
            "complete (0)", "complete (4 0)", "complete (5 4 5 0)", "complete (3)",
        ])
        self.same(run_script("points 0\nclosure\ntight\nfull\ncomplete\nduel\nduel 0"), [
            "points 0", "closure ()", "tight yes", "full yes", "complete ()", "duel none", "error NotAPoint",
        ])
        self.same(run_script("points 3\nclosure\ntight 0\nfull"), ["points 3", "closure (0 1 2)", "tight no 0", "full yes"])

    def test_lengths_and_least_rows(self):
        self.same(self.answers("lengths\none\nrow 0\nrow 1\nrow 2\nrow 3\nrow 12\nrow 13"), [
            "lengths 1 2", "one no", "error NoSuchLength", "row (0)", "row (4 0)", "error NoSuchLength", "error NoSuchLength",
            "error BadNumber",
        ])
        self.same(run_script("points 3\nlengths\none\nrow 0\nrow 1"), [
            "points 3", "lengths 0", "one yes", "row ()", "error NoSuchLength",
        ])

    def test_failing_and_pair(self):
        self.same(self.answers("failing\npair"), ["failing () 0 4", "pair (4 0) (0)"])
        self.same(run_script("points 3\nfailing\npair"), ["points 3", "failing none", "pair none"])
        world = "points 7\ntell (0 1 2 3)(4 5)\ntell (5 6)\n"
        slow = plain.Script()
        expected = [slow.answer(line) for line in (world + "failing\npair\nlengths").split("\n")]
        self.same(run_script(world + "failing\npair\nlengths"), expected)

    def test_duel(self):
        self.same(self.answers("duel\nduel 4\nduel 0\nduel 4 0\nduel 4 5\nduel 0 4\nduel 6"), [
            "duel 0", "duel 0", "duel none", "duel none", "error NotTight", "error NotTight", "error NotAPoint",
        ])
        self.same(run_script("points 3\nduel\ntell (0 1)\ntell (1 2)\nduel\nduel 2\nduel 2 2"), [
            "points 3", "duel none", "told 1", "told 2", "duel none", "duel 0", "error NotTight",
        ])

    def test_keep_and_check(self):
        self.same(self.answers("check\nkeep\ncheck\ndrop 0\ncheck\nkeep\ncheck\nundo\ncheck\nredo\ncheck"), [
            "error NothingKept", "kept many", "check yes", "told 0", "check no", "kept one", "check yes", "told 1", "check no",
            "told 0", "check yes",
        ])
        self.same(run_script("points 0\nkeep\ncheck"), ["points 0", "kept one", "check yes"])

    def test_nothing_to_undo_or_redo(self):
        self.same(self.answers("redo\nundo\nundo\nredo\nredo"), [
            "error NothingToRedo", "told 0", "error NothingToUndo", "told 1", "error NothingToRedo",
        ])

    def test_equal_calls(self):
        text = EXAMPLE + "lengths\nkeep\ncheck\nundo\nfailing"
        before = run_script(text)
        run_script(text).clear()
        self.same(run_script(text), before)


class Drawn(Case):

    def drawn_row(self, chance, points):
        many = chance.choice([0, 1, 1, 2, 2, 3, 4, 24, 25])
        return [chance.randrange(points + (chance.random() < 0.1)) for _ in range(many)] if points else [0] * (many // 12)

    def drawn_line(self, chance, points, moves):
        word = chance.choice(COMMANDS + ["tell"] * 6 + ["change", "undo", "keep", "check", "duel", "row"] * 2)
        number = str(chance.choice([0, 0, 1, 1, 2, 3, 4, 12, 13, 999]))
        move = format_move(chance.choice(moves))
        if word == "points":
            line = "points " + str(points) if chance.random() < 0.3 else "points 13"
        elif word in WITH_NUMBER:
            line = f"{word} {number}"
        elif word in WITH_ROW:
            line = " ".join([word] + [str(p) for p in self.drawn_row(chance, points)])
        else:
            line = {"tell": f"tell {move}", "change": f"change {number} {move}"}.get(word, word)
        return self.spoilt(chance, line) if chance.random() < 0.08 else line

    def spoilt(self, chance, line):
        place = chance.randrange(len(line) + 1)
        return line[:place] + chance.choice([" ", "0", "1", "x", "(", ")", ""]) + line[place + chance.randrange(2):]

    def check_script(self, lines):
        slow = plain.Script()
        expected = [slow.answer(line) for line in lines]
        with self.subTest(lines=lines):
            self.same(run_script("\n".join(lines) + "\n"), expected)
        return expected

    def test_drawn_scripts(self):
        chance = random.Random(81)
        met = {}
        for _ in range(220):
            points = chance.choice([0, 1, 2, 3, 4, 5, 6, 6, 7, 7])
            moves = [still(points)]
            if points > 1:
                moves += [oracle.drawn_move(chance, points) for _ in range(3)]
            if points == 6:
                moves += [(1, 2, 3, 0, 5, 4), (1, 0, 3, 4, 5, 2)]
            lines = [f"points {points}"] + [self.drawn_line(chance, points, moves) for _ in range(chance.randrange(1, 50))]
            if chance.random() < 0.1:
                lines = lines[1:]
            for line, answer in zip(lines, self.check_script(lines)):
                key = answer if answer.startswith("error") else line.partition(" ")[0]
                met[key] = met.get(key, 0) + 1
        self.assertEqual(
            sorted(key for key in met if key.startswith("error ")),
            sorted(f"error {name}" for name in (
                "BadText NoWorld BadNumber NotAPoint TooMany NotTight NoSuchLength NothingToUndo NothingToRedo NothingKept"
            ).split()),
        )
        self.assertEqual(sorted(key for key in met if not key.startswith("error ")), sorted(COMMANDS))

    def test_worlds_with_more_lengths(self):
        questions = ["size", "orbits", "lengths", "one", "failing", "pair", "keep", "check", "row 1", "row 2", "row 3", "duel"]
        questions += ["closure 0", "tight 0 1 2", "full 0 1 2", "complete 1", "duel 0"]
        for known in oracle.known():
            if known.points <= 8:
                lines = [f"points {known.points}"] + [f"tell {format_move(move)}" for move in known.told] + questions
                self.check_script(lines)


if __name__ == "__main__":
    unittest.main()
