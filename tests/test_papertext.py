"""The form of papers, their written forms and how they are read (points 74 and 75)."""

import random
import re
import unittest

from heldorder.errors import BadText, NotAPaper
from heldorder.makers import all_moves
from heldorder.papers import length_paper, verdict
from heldorder.papertext import format_paper, has_paper_form, parse_paper
from heldorder.worlds import World
from tests import oracle
from tests.support import BIG, NOT_WHOLE, Case

DOC = ("many", ((), 0, 4), (4, 0), (0,))
DOC_TEXT = "many\nfailing () 0 4\nlonger (4 0)\nshorter (0)\n"
LONG_ROW = tuple(p % 12 for p in range(24))
LONG_TABLE = tuple((tuple(range(p % 12)), p % 13, (p // 13) % 13) for p in range(4096))

POINT = "(?:[0-9]|1[01])"
NUMBER = "(?:[0-9]|1[0-2])"
ROW = rf"\((?:{POINT}(?: {POINT}){{0,23}})?\)"
LOTS = rf"(?:lot {ROW} {NUMBER} {NUMBER}\n)"
# What some written form begins with, in whole lines, and what is a whole written form.
BEGINNINGS = [
    rf"one\n{LOTS}{{0,4096}}",
    rf"many\n(?:failing {ROW} {POINT} {POINT}\n(?:longer {ROW}\n(?:shorter {ROW}\n)?)?)?",
    rf"lengths\n(?:row {ROW}\n){{0,13}}{LOTS}{{0,4096}}",
]
WHOLE = [
    BEGINNINGS[0], rf"many\nfailing {ROW} {POINT} {POINT}\nlonger {ROW}\nshorter {ROW}\n", BEGINNINGS[2],
]


def reckoned_bad_line(text):
    """The first bad line by these forms, or None."""
    *lines, rest = text.split("\n")
    for many in range(1, len(lines) + 1):
        beginning = "".join(line + "\n" for line in lines[:many])
        if not any(re.fullmatch(form, beginning) for form in BEGINNINGS):
            return many
    if rest or not any(re.fullmatch(form, text) for form in WHOLE):
        return len(lines) + 1
    return None


def drawn_row(chance):
    return tuple(chance.randrange(12) for _ in range(chance.choice([0, 1, 2, 3, 24])))


def drawn_table(chance):
    return tuple((drawn_row(chance), chance.randrange(13), chance.randrange(13)) for _ in range(chance.randrange(5)))


def drawn_paper(chance):
    kind = chance.choice(["one", "many", "lengths"])
    if kind == "one":
        return kind, drawn_table(chance)
    if kind == "many":
        failing = drawn_row(chance), chance.randrange(12), chance.randrange(12)
        return kind, failing, drawn_row(chance), drawn_row(chance)
    return kind, tuple(drawn_row(chance) for _ in range(chance.randrange(4))), drawn_table(chance)


def drawn_fault(chance, text):
    """The text with one line or a few signs changed, or none."""
    lines = text.split("\n")
    place = chance.randrange(len(lines))
    kind = chance.randrange(7)
    if kind == 0:
        del lines[place]
    elif kind == 1:
        lines.insert(place, chance.choice(lines))
    elif kind == 2:
        lines[place] = chance.choice(["one", "many", "lengths", "row ()", "lot () 0 0", "failing () 0 0", "", " "])
    elif kind == 3:
        chance.shuffle(lines)
    elif kind == 4:
        return text[:chance.randrange(len(text) + 1)]
    elif kind == 5:
        place = chance.randrange(len(text))
        return text[:place] + chance.choice("01239 ()\nlx-") + text[place + 1:]
    else:
        place = chance.randrange(len(text) + 1)
        return text[:place] + chance.choice("01239 ()\nlx-") + text[place:]
    return "\n".join(lines)


class Form(Case):

    def test_papers_of_worlds(self):
        for known in oracle.known():
            for paper in (length_paper(known.world), verdict(known.world)):
                self.same(has_paper_form(paper), True)
                self.same(parse_paper(format_paper(paper)), paper)

    def check_form(self, value, right):
        with self.subTest(value=repr(value)[:90]):
            self.same(has_paper_form(value), right)
            if right:
                self.same(parse_paper(format_paper(value)), value)
            else:
                self.refused(NotAPaper(), format_paper, value)

    def test_the_least_papers(self):
        for value in (("one", ()), ("lengths", (), ()), ("many", ((), 0, 0), (), ())):
            self.check_form(value, True)

    def each_place_of_a_row(self, row):
        yield "one", ((row, 0, 0),)
        yield "one", (((), 0, 0), (row, 12, 12))
        yield "many", (row, 0, 0), (), ()
        yield "many", ((), 0, 0), row, ()
        yield "many", ((), 0, 0), (), row
        yield "lengths", (row,), ()
        yield "lengths", ((), row), ()
        yield "lengths", (), ((row, 0, 0),)

    def test_rows(self):
        for row in [(), (0,), (11,), (11, 11), (3, 0, 3), LONG_ROW, (11,) * 24, (0,) * 24]:
            for value in self.each_place_of_a_row(row):
                self.check_form(value, True)
        wrong = [LONG_ROW + (0,), (0,) * 25, (12,), (0, 12), (-1,), (BIG,), [], [0], None, 0, "", "()", (0,) * 200000]
        wrong += [(value,) for value in NOT_WHOLE] + [(0, value, 1) for value in NOT_WHOLE]
        for row in wrong:
            for value in self.each_place_of_a_row(row):
                self.check_form(value, False)

    def test_points_of_a_failing(self):
        for point in range(12):
            self.check_form(("many", ((), point, 0), (), ()), True)
            self.check_form(("many", ((), 0, point), (), ()), True)
        for value in NOT_WHOLE + [-1, 12, 13, BIG, -BIG]:
            self.check_form(("many", ((), value, 0), (), ()), False)
            self.check_form(("many", ((), 0, value), (), ()), False)
        for failing in [(), ((), 0), ((), 0, 0, 0), [(), 0, 0], None, "", 0, (0, 0, 0), (0, (), 0)]:
            self.check_form(("many", failing, (), ()), False)

    def test_numbers_of_a_table(self):
        for number in range(13):
            for entry in (((), number, 0), ((), 0, number)):
                self.check_form(("one", (entry,)), True)
                self.check_form(("lengths", (), (entry,)), True)
        for value in NOT_WHOLE + [-1, 13, BIG, -BIG]:
            for entry in (((), value, 0), ((), 0, value)):
                self.check_form(("one", (entry,)), False)
                self.check_form(("lengths", (), (((), 0, 0), entry)), False)
        for entry in [(), ((), 0), ((), 0, 0, 0), [(), 0, 0], None, "", 0, (0, 0, 0), (0, (), 0)]:
            self.check_form(("one", (entry,)), False)
            self.check_form(("lengths", ((),), (entry,)), False)
        for table in [[], [((), 0, 0)], None, "", 0, ((), 0, 0), True]:
            self.check_form(("one", table), False)
            self.check_form(("lengths", (), table), False)

    def test_rows_of_a_length_paper(self):
        for many in range(14):
            self.check_form(("lengths", ((0, 1),) * many, ()), True)
        for rows in [((0, 1),) * 14, ((),) * 200000, [], [()], None, "", 0, (0,), ((), 0)]:
            self.check_form(("lengths", rows, ()), False)

    def test_4096_and_4097_entries(self):
        for front in (("one",), ("lengths", ((0,), (4, 0)))):
            self.check_form(front + (LONG_TABLE,), True)
            self.check_form(front + (LONG_TABLE + (((), 0, 0),),), False)
            self.check_form(front + ((((), 0, 0),) * 60000,), False)

    def test_wrong_kinds_and_numbers_of_parts(self):
        for value in [
            (), ("one",), ("many",), ("lengths",), ("one", (), ()), ("many", ((), 0, 0)), ("many", ((), 0, 0), ()),
            ("many", ((), 0, 0), (), (), ()), ("lengths", ()), ("lengths", (), (), ()), ["one", ()], ["lengths", (), ()],
            ["many", ((), 0, 0), (), ()], ("One", ()), ("one ", ()), ("", ()), (None, ()), (1, ()), (True, ()), ((), ()),
            (("one",), ()), ("many", ()), ("lengths", ()), ("one", (), ()), ("many", (), ()), ("Lengths", (), ()),
            ("one", ((), 0, 0), (), ()), ("lengths", ((), 0, 0), (), ()), ("MANY", ((), 0, 0), (), ()), "one", "many\n",
        ]:
            self.check_form(value, False)
        self.check_judged_argument(has_paper_form)

    def test_right_for_no_world(self):
        self.check_form(("many", ((11, 11), 3, 3), (2, 2), (5,)), True)
        self.check_form(("one", (((3, 1, 1), 12, 0), ((3, 1, 1), 12, 0))), True)
        self.check_form(("lengths", ((7,), (7,), ()), ()), True)


class Written(Case):

    def test_example(self):
        self.same(format_paper(DOC), DOC_TEXT)
        self.same(parse_paper(DOC_TEXT), DOC)

    def test_some(self):
        for value, text in [
            (("one", ()), "one\n"),
            (("one", (((), 0, 12), ((0, 11), 10, 3))), "one\nlot () 0 12\nlot (0 11) 10 3\n"),
            (("lengths", (), ()), "lengths\n"),
            (("lengths", ((), (10,), (1, 1, 1)), ()), "lengths\nrow ()\nrow (10)\nrow (1 1 1)\n"),
            (("lengths", ((2,),), (((), 1, 1),)), "lengths\nrow (2)\nlot () 1 1\n"),
            (("lengths", (), (((2,), 1, 1),)), "lengths\nlot (2) 1 1\n"),
            (("many", ((3, 11), 11, 0), (), (5,)), "many\nfailing (3 11) 11 0\nlonger ()\nshorter (5)\n"),
        ]:
            self.same(format_paper(value), text)
            self.same(parse_paper(text), value)
        self.same(
            format_paper(length_paper(all_moves(3))),
            "lengths\nrow (0 1)\nlot () 2 2\nlot (0) 1 1\nlot (1) 1 1\nlot (2) 1 1\nlot (0 1 2) 0 0\n",
        )
        self.same(format_paper(verdict(World(2))), "one\nlot (0 1) 0 0\n")

    def test_there_and_back(self):
        chance = random.Random(75)
        for _ in range(400):
            value = drawn_paper(chance)
            self.same(has_paper_form(value), True)
            text = format_paper(value)
            self.same(parse_paper(text), value)
            self.same(reckoned_bad_line(text), None)

    def test_the_longest_papers(self):
        table = ((LONG_ROW, 12, 12),) * 4096
        for value in (("one", table), ("lengths", (LONG_ROW,) * 13, table)):
            text = format_paper(value)
            self.assertLess(len(text), 400000)
            self.same(parse_paper(text) == value, True)


class Reading(Case):

    def test_faults(self):
        chance = random.Random(76)
        good = 0
        for _ in range(4000):
            text = format_paper(drawn_paper(chance))
            for _ in range(chance.randrange(1, 3)):
                text = drawn_fault(chance, text) if text else text
            line = reckoned_bad_line(text)
            with self.subTest(text=text):
                if line is None:
                    good += 1
                    self.same(format_paper(parse_paper(text)), text)
                else:
                    self.refused(BadText(line), parse_paper, text)
        self.assertGreater(good, 100)

    def check_bad(self, line, text):
        with self.subTest(text=text[:90]):
            self.refused(BadText(line), parse_paper, text)

    def test_the_first_line(self):
        for line in (
            "", " ", "One", "one ", " one", "ones", "on", "many ", "many ()", "lengths ()", "lengths 1", "length", "lot () 0 0",
            "row ()", "failing () 0 4", "points 3", "x", "()", "oneone", "one many",
        ):
            for more in ("", "\n", "\nlot () 0 0\n", "\nbad", "\n\n", "\nrow ()\n"):
                self.check_bad(1, line + more)
        for line in ("one", "many", "lengths"):
            self.check_bad(1, line)
            self.check_bad(2, line + "\n\n")
            self.check_bad(2, line + "\nx")
            self.check_bad(2, line + "\n ")
            self.check_bad(2, line + "\n" + line + "\n")
        self.check_bad(1, "")
        self.check_bad(1, "\n")
        self.check_bad(1, "\none\n")

    def test_many_has_four_lines(self):
        lines = DOC_TEXT.split("\n")[:-1]
        for many in range(4):
            text = "".join(line + "\n" for line in lines[:many])
            self.check_bad(many + 1, text)
            self.check_bad(many + 1, text + "\n")
            self.check_bad(many + 1, text + "x")
            self.check_bad(many + 1, text + lines[many])
            self.check_bad(many + 1, text + " " + lines[many] + "\n")
            self.check_bad(many + 1, text + "\n" + lines[many] + "\n")
        for more in ("\n", "x", " ", "shorter (0)\n", "lot () 0 0\n", "row ()\n", "many\n", "\n\n"):
            self.check_bad(5, DOC_TEXT + more)
        self.check_bad(3, "many\nfailing () 0 4\nshorter (0)\nlonger (4 0)\n")
        self.check_bad(2, "many\nlonger (4 0)\nfailing () 0 4\nshorter (0)\n")
        self.check_bad(4, "many\nfailing () 0 4\nlonger (4 0)\nlonger (0)\n")

    def test_failing_lines(self):
        for line in (
            "failing () 0", "failing () 0 4 5", "failing 0 4", "failing () 0 12", "failing () 12 0", "failing () 00 4",
            "failing () 0 04", "failing ()  0 4", "failing () 0  4", "failing  () 0 4", "failing () 0 4 ", " failing () 0 4",
            "failing() 0 4", "failing ()0 4", "failing ( ) 0 4", "failing (0  1) 0 4", "failing (0 1 ) 0 4", "failing ( 0) 0 4",
            "failing (01) 0 4", "failing (12) 0 4", "failing (-1) 0 4", "failing (0,1) 0 4", "failing (0 1 0 4", "failing 0 1) 0 4",
            "failing () 0 -4", "failing () 0 +4", "failing () x 4", "failing () 0 x", "failing (()) 0 4", "failing ()() 0 4",
            "failing (0) (1) 4", "failing () 0 100", "failing", "failing ", "failing ()", "Failing () 0 4", "lot () 0 4",
            "failing (" + " ".join(["0"] * 25) + ") 0 4", "failing () 0 4)", "failing (x) 0 4", "failing () () ()",
            "failing [] 0 4", "failing (0)1 0 4", "failing ) 0 4", "failing ( 0 4", "longer () 0 4", "failing () 0 4 () 0 4",
        ):
            self.check_bad(2, "many\n" + line + "\nlonger (4 0)\nshorter (0)\n")
        text = "many\nfailing (" + " ".join(["0"] * 24) + ") 11 11\nlonger (4 0)\nshorter (0)\n"
        self.same(parse_paper(text), ("many", ((0,) * 24, 11, 11), (4, 0), (0,)))

    def test_row_lines(self):
        bad = (
            "", " ", "()", "(0", "0)", "0", "( )", "(0 1) ", " (0 1)", "(0  1)", "(0 1 )", "( 0 1)", "(00)", "(01)", "(12)",
            "(100)", "(-1)", "(+1)", "(0,1)", "(0)(1)", "(0) 1", "(x)", "((0))", "[0]", "(0) ()", "(0 12)", ")", "(", ")(",
            "(" + " ".join(["0"] * 25) + ")",
        )
        for row in bad:
            if row != "()":
                self.check_bad(3, f"many\nfailing () 0 4\nlonger {row}\nshorter (0)\n")
                self.check_bad(4, f"many\nfailing () 0 4\nlonger (4 0)\nshorter {row}\n")
                self.check_bad(2, f"lengths\nrow {row}\nlot () 0 0\n")
                self.check_bad(3, f"lengths\nrow ()\nrow {row}\n")
                self.check_bad(3, f"lengths\nlot () 0 0\nlot {row} 0 0\n")
                self.check_bad(2, f"one\nlot {row} 0 0\n")
            if not row.startswith(" "):
                self.check_bad(2, f"lengths\nrow{row}\n")
            self.check_bad(2, f"lengths\nrow  {row}\n")
            self.check_bad(2, f"lengths\nrows {row}\n")
        row = "(" + " ".join(["11"] * 24) + ")"
        self.same(parse_paper(f"lengths\nrow {row}\n"), ("lengths", ((11,) * 24,), ()))

    def test_lot_lines(self):
        for line in (
            "lot () 0", "lot () 0 0 0", "lot 0 0", "lot () 0 13", "lot () 13 0", "lot () 00 0", "lot () 0 012", "lot () 0  0",
            "lot ()  0 0", "lot () 0 0 ", "lots () 0 0", "lot", "lot ()", "lot () 0 x", "lot () -1 0", "row ()", "row (0)", "",
            "lot (12) 0 0", "one", "lot () 0 100", "lot () 1 2 3 4",
        ):
            for before in (0, 1, 2):
                lots = "lot () 0 0\n" * before
                if not line.startswith("row") or before:
                    self.check_bad(2 + before, "lengths\n" + lots + line + "\nlot () 0 0\n")
                    self.check_bad(3 + before, "lengths\nrow (0)\n" + lots + line + "\n")
                self.check_bad(2 + before, "one\n" + lots + line + "\n")
        self.same(parse_paper("one\nlot (11 11) 12 12\n"), ("one", (((11, 11), 12, 12),)))

    def test_13_and_14_rows(self):
        self.same(parse_paper("lengths\n" + "row ()\n" * 13), ("lengths", ((),) * 13, ()))
        self.check_bad(15, "lengths\n" + "row ()\n" * 14)
        self.check_bad(15, "lengths\n" + "row ()\n" * 14 + "lot () 0 0\n")
        self.check_bad(15, "lengths\n" + "row ()\n" * 13 + "row (x)\n")
        self.check_bad(14, "lengths\n" + "row ()\n" * 12 + "row (x)\n" + "row ()\n" * 4)
        text = "lengths\n" + "row ()\n" * 13 + "lot () 0 0\n"
        self.same(parse_paper(text), ("lengths", ((),) * 13, (((), 0, 0),)))
        self.check_bad(16, text + "row ()\n")

    def test_4096_and_4097_lots(self):
        for front, before in (("one\n", 1), ("lengths\n", 1), ("lengths\nrow ()\nrow (3)\n", 3)):
            text = front + "lot (0 1) 0 12\n" * 4096
            self.same(parse_paper(text)[-1], (((0, 1), 0, 12),) * 4096)
            self.check_bad(before + 4097, text + "lot () 0 0\n")
            self.check_bad(before + 4097, text + "lot () 0 0")
            self.check_bad(before + 4097, text + "\n")
            self.check_bad(before + 4097, front + "lot () 0 0\n" * 6000)
            self.check_bad(before + 10, front + "lot () 0 0\n" * 9 + "bad\n" + "lot () 0 0\n" * 6000)

    def test_the_missing_line_feed(self):
        for text in ("one\n", "one\nlot () 0 0\n", "lengths\nrow ()\n", DOC_TEXT):
            lines = text.count("\n")
            self.check_bad(lines, text[:-1])
            for rest in (" ", "x", "lot () 0 0", "(", "one"):
                self.check_bad(lines + 1, text + rest)
        # A bad line in front comes first.
        self.check_bad(2, "one\nbad\nlot () 0 0")

    def test_long_texts(self):
        self.check_bad(1, "x" * 400000)
        self.check_bad(1, "\n" * 400000)
        self.check_bad(2, "one\n" + "(" * 399000)
        self.check_bad(2, "one\nlot (" + "0 " * 199000 + "0) 0 0\n")
        self.check_bad(2, "lengths\nrow (" + "0 " * 199000 + "0)\n")
        self.check_bad(2, "one\n" + " " * 399000)

    def test_equal_calls(self):
        self.same(parse_paper(DOC_TEXT), parse_paper(DOC_TEXT))
        self.same(format_paper(DOC), format_paper(DOC))


if __name__ == "__main__":
    unittest.main()
