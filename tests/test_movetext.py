"""The written forms of moves and worlds (points 13 to 15)."""

import itertools
import unittest

from heldorder.errors import BadNumber, BadText, NotAMove, TooMany
from heldorder.movetext import format_move, format_world, parse_move, parse_world
from tests.support import Case, still

WRITTEN = {
    (): "()",
    (0,): "()",
    (1, 0): "(0 1)",
    (2, 1, 4, 3, 0): "(0 2 4)",
    (4, 0, 1, 2, 3): "(0 4 3 2 1)",
    (3, 2, 1, 0): "(0 3)(1 2)",
    (1, 2, 3, 0, 5, 4): "(0 1 2 3)(4 5)",
    still(12): "()",
    (0, 1, 2, 3, 4, 5, 6, 7, 8, 10, 11, 9): "(9 10 11)",
    tuple(range(11, -1, -1)): "(0 11)(1 10)(2 9)(3 8)(4 7)(5 6)",
    tuple(range(1, 12)) + (0,): "(0 1 2 3 4 5 6 7 8 9 10 11)",
}

# Accepted by loose reading of five points alone, with the move that is meant.
LOOSE = {
    "()()": still(5),
    "(0)": still(5),
    "(4)": still(5),
    "()(0)(1)()": still(5),
    "(1 0)": (1, 0, 2, 3, 4),
    "(2)(3 1)": (0, 3, 2, 1, 4),
    "(3 4)(0 1)": (1, 0, 2, 4, 3),
    "(2 0 1)": (1, 2, 0, 3, 4),
    "(0 1)()": (1, 0, 2, 3, 4),
    "()(0 1)": (1, 0, 2, 3, 4),
    "(0 1)(2)": (1, 0, 2, 3, 4),
    "(4 3 2 1 0)": (4, 0, 1, 2, 3),
    "()" * 100: still(5),
    "()" * 97 + "(4 0)": (4, 1, 2, 3, 0),
}

# Accepted by no reading of five points.
BAD = [
    "", " ", "\n", "0", "0 1", "(", ")", ")(", "((", "))", "()(", "(()", "())", ")()", "(0 1", "0 1)", "((0 1)", "(0 1))",
    "(0 1)2", "2(0 1)", "(0 1)2(3 4)", "(0 1) ", " (0 1)", "(0 1)\n", "\n(0 1)", "(0 1)\n()", "(0 1) (2 3)", "(0  1)",
    "(0 1 )", "( 0 1)", "( )", "(  )", "(0\n1)", "(0,1)", "(0-1)", "[0 1]", "(0 1]", "{0 1}", "(0 1)(", "(0 1))(2 3)",
    "(0 1)((2 3)", "(0 5)", "(5)", "(0 12)", "(0 01)", "(00 1)", "(01)", "(00)", "(0 -1)", "(-0 1)", "(+0 1)", "(0 +1)",
    "(0 1.)", "(0 a)", "(a)", "(0 1 0)", "(0 0)", "(0)(0)", "(0 1)(1)", "(0 1)(1 2)", "(0 1)()(2)(0)", "(0 1)(2 3 0)",
    "(0 100)", "(000)", "(0 1 2 3 4 5)", "(0 1)x", "x", "~", "(0 1)()x()", "()()(", "(0 1(2 3)", "(0 1)2 3)", "(0 ,1)",
    "move (0 1)", "(0 _1)", "(0 1_0)", "(1 2 3 )", "(1)2)(3)", "(4 4)", "(9)", "(99)", "(0 10)",
]


class FormatMove(Case):

    def test_written_forms(self):
        for move, text in WRITTEN.items():
            self.same(format_move(move), text)

    def test_wrong_moves(self):
        self.check_move_argument(format_move, 0)


class ParseMove(Case):

    def test_examples(self):
        self.same(parse_move(4, "(2)(3 1)", loose=True), (0, 3, 2, 1))
        self.refused(BadText(1), parse_move, 4, "(3 1)")

    def test_written_forms_are_read(self):
        for move, text in WRITTEN.items():
            with self.subTest(text=text):
                self.same(parse_move(len(move), text), move)
                self.same(parse_move(len(move), text, loose=False), move)
                self.same(parse_move(len(move), text, loose=True), move)

    def test_all_moves_on_five_points_and_back(self):
        for move in itertools.permutations(range(5)):
            text = format_move(move)
            self.same(parse_move(5, text), move)
            self.same(parse_move(5, text, loose=True), move)

    def test_loose_texts(self):
        for text, move in LOOSE.items():
            with self.subTest(text=text):
                self.same(parse_move(5, text, loose=True), move)
                self.refused(BadText(1), parse_move, 5, text)
                self.refused(BadText(1), parse_move, 5, text, loose=False)

    def test_strict_reading_wants_the_order_of_the_cycles(self):
        for text in ("(2 3)(0 1)", "(1 0)(2 3)", "(0 1)(3 2)", "(0 1)(2)(3)", "(1 2 0)", "(2 0 1)"):
            with self.subTest(text=text):
                self.refused(BadText(1), parse_move, 5, text)
                parse_move(5, text, loose=True)

    def test_bad_texts(self):
        for text in BAD:
            with self.subTest(text=text):
                self.refused(BadText(1), parse_move, 5, text)
                self.refused(BadText(1), parse_move, 5, text, loose=True)

    def test_points_must_be_less_than_the_number_of_points(self):
        for points in range(13):
            for point in (points, points + 1, 12, 99):
                self.refused(BadText(1), parse_move, points, f"({point})", loose=True)
                self.refused(BadText(1), parse_move, points, f"(0 {point})")
            for point in range(points):
                self.same(parse_move(points, f"({point})", loose=True), still(points))
        self.refused(BadText(1), parse_move, 0, "(0)", loose=True)
        self.same(parse_move(0, "()"), ())
        self.same(parse_move(0, "()()()", loose=True), ())

    def test_a_character_too_much_too_few_or_exchanged(self):
        text = "(0 2)(1 3 4)"
        good = {form: move for move in itertools.permutations(range(5)) for form in [format_move(move)]}
        for at in range(len(text) + 1):
            changed = [text[:at] + sign + text[at:] for sign in "()0 19-\n~"]
            changed += [text[:at] + text[at + 1:]]
            changed += [text[:at] + sign + text[at + 1:] for sign in "()0 19-\n~"]
            for other in changed:
                with self.subTest(text=other):
                    if other in good:
                        self.same(parse_move(5, other), good[other])
                    else:
                        self.refused(BadText(1), parse_move, 5, other)

    def test_all_short_texts(self):
        # With two points these are all texts of up to five of the signs that loose reading accepts.
        meant = {"()": (0, 1), "(0)": (0, 1), "(1)": (0, 1), "()()": (0, 1), "(0 1)": (1, 0), "(1 0)": (1, 0)}
        meant.update({"(0)()": (0, 1), "()(0)": (0, 1), "(1)()": (0, 1), "()(1)": (0, 1)})
        for length in range(6):
            for signs in itertools.product("() 01", repeat=length):
                text = "".join(signs)
                if text in meant:
                    self.same(parse_move(2, text, loose=True), meant[text])
                else:
                    self.refused(BadText(1), parse_move, 2, text, loose=True)
                if text in ("()", "(0 1)"):
                    self.same(parse_move(2, text), meant[text])
                else:
                    self.refused(BadText(1), parse_move, 2, text)

    def test_wrong_numbers(self):
        self.check_number_argument(lambda value: parse_move(value, "()"), 0, 12)
        self.check_number_argument(lambda value: parse_move(value, "()()", loose=True), 0, 12)
        self.refused(BadNumber(13, 0, 12), parse_move, 13, "")

    def test_loose_is_passed_by_name(self):
        with self.assertRaises(TypeError):
            parse_move(4, "()", True)


class FormatWorld(Case):

    def test_written_forms(self):
        self.same(format_world(0, []), "points 0\n")
        self.same(format_world(12, ()), "points 12\n")
        self.same(format_world(0, [(), ()]), "points 0\nmove ()\nmove ()\n")
        self.same(format_world(3, [(1, 0, 2), (0, 1, 2), (1, 0, 2)]), "points 3\nmove (0 1)\nmove ()\nmove (0 1)\n")
        self.same(format_world(6, ((1, 2, 3, 0, 5, 4),)), "points 6\nmove (0 1 2 3)(4 5)\n")
        self.same(format_world(1, [(0,)] * 8), "points 1\n" + "move ()\n" * 8)

    def test_how_many_moves_they_make_is_not_looked_at(self):
        round_twelve = tuple(range(1, 12)) + (0,)
        swap = (1, 0) + tuple(range(2, 12))
        text = "points 12\nmove (0 1 2 3 4 5 6 7 8 9 10 11)\nmove (0 1)\n"
        self.same(format_world(12, [round_twelve, swap]), text)
        self.same(parse_world(text), (12, [round_twelve, swap]))

    def test_wrong_arguments(self):
        self.check_number_argument(lambda value: format_world(value, []), 0, 12)
        self.check_move_list_argument(lambda moves: format_world(3, moves), 3, "told", 8)
        self.refused(BadNumber(13, 0, 12), format_world, 13, [None] * 9)
        self.refused(TooMany("told", 8), format_world, 2, [None] * 9)
        self.refused(NotAMove(1), format_world, 2, [(1, 0), (0,), None])

    def test_the_list_stays(self):
        moves = [(1, 0), (0, 1)]
        format_world(2, moves)
        self.same(moves, [(1, 0), (0, 1)])


class ParseWorld(Case):

    def test_written_forms_are_read(self):
        for points, moves in [
            (0, []), (0, [()]), (0, [()] * 8), (1, [(0,)]), (12, []), (10, []), (9, []),
            (3, [(1, 0, 2), (0, 1, 2), (1, 0, 2)]), (6, [(1, 2, 3, 0, 5, 4)]), (2, [(1, 0)] * 8),
        ]:
            self.same(parse_world(format_world(points, moves)), (points, moves))
        for points in range(13):
            self.same(parse_world(f"points {points}\n"), (points, []))

    def test_the_first_line(self):
        for line in (
            "", " ", "points", "points ", "points  3", " points 3", "points 3 ", "points 03", "points 00", "points 13",
            "points -1", "points +1", "points 100", "Points 3", "point 3", "points3", "points x", "points 3 move (0 1)",
            "move (0 1)", "points 1.", "points 012", "points 0 0",
        ):
            with self.subTest(line=line):
                self.refused(BadText(1), parse_world, line + "\n")
                self.refused(BadText(1), parse_world, line)
                self.refused(BadText(1), parse_world, line + "\nmove (0 1)\n")
                self.refused(BadText(1), parse_world, line + "\nbad\n")

    def test_the_empty_text(self):
        self.refused(BadText(1), parse_world, "")
        self.refused(BadText(1), parse_world, "\n")
        self.refused(BadText(1), parse_world, "\n\n")
        self.refused(BadText(1), parse_world, "\npoints 3\n")

    def test_the_missing_line_feed(self):
        self.refused(BadText(1), parse_world, "points 3")
        self.refused(BadText(2), parse_world, "points 3\nmove (0 1)")
        self.refused(BadText(3), parse_world, "points 3\nmove (0 1)\nmove (0 1)")
        self.refused(BadText(3), parse_world, "points 3\nmove (0 1)\n ")
        self.refused(BadText(2), parse_world, "points 3\nx")
        self.refused(BadText(10), parse_world, "points 3\n" + "move ()\n" * 8 + "x")
        self.refused(BadText(9), parse_world, "points 3\n" + "move ()\n" * 7 + "move ()")

    def test_bad_lines(self):
        for line in (
            "", " ", "move", "move ", "move  ()", " move ()", "move () ", "move()", "Move ()", "moves ()", "move (1 0)",
            "move (0)", "move ()()", "move (0 3)", "move (0 1)(2)", "move (0  1)", "(0 1)", "points 3", "move (0 1",
            "move (0 1))", "x", "move move ()", "move (00 1)",
        ):
            for before in range(8):
                with self.subTest(line=line, before=before):
                    text = "points 3\n" + "move (0 1)\n" * before + line
                    self.refused(BadText(before + 2), parse_world, text + "\n")
                    self.refused(BadText(before + 2), parse_world, text + "\nmove (0 1)\n")
                    self.refused(BadText(before + 2), parse_world, text + "\nbad\n\n")

    def test_moves_are_on_the_number_of_points_of_the_first_line(self):
        self.same(parse_world("points 4\nmove (0 3)\n"), (4, [(3, 1, 2, 0)]))
        self.refused(BadText(2), parse_world, "points 3\nmove (0 3)\n")
        self.refused(BadText(3), parse_world, "points 0\nmove ()\nmove (0 1)\n")

    def test_the_ninth_line_and_the_tenth(self):
        self.same(parse_world("points 2\n" + "move (0 1)\n" * 8), (2, [(1, 0)] * 8))
        self.refused(BadText(10), parse_world, "points 2\n" + "move (0 1)\n" * 9)
        self.refused(BadText(10), parse_world, "points 2\n" + "move (0 1)\n" * 40)
        self.refused(BadText(10), parse_world, "points 2\n" + "move (0 1)\n" * 8 + "\n")
        self.refused(BadText(9), parse_world, "points 2\n" + "move (0 1)\n" * 7 + "bad\n" + "move ()\n" * 2)

    def test_a_new_list_each_time(self):
        text = "points 2\nmove (0 1)\n"
        parse_world(text)[1].append(None)
        self.same(parse_world(text), (2, [(1, 0)]))


if __name__ == "__main__":
    unittest.main()
