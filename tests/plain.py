"""Papers, engines and scripts by the words of the document, to compare with; worlds are those of tests.oracle."""

import functools
import re

from heldorder.errors import BadNumber, NotAMove, NothingToRedo, NothingToUndo, TooMany
from tests import oracle


def is_whole(value, low, high):
    return type(value) is int and low <= value <= high


def spans(known):
    """For each closed lot the least and the greatest number of points behind a beginning with this closure."""
    found = {}
    for row in known.full:
        for index in range(len(row) + 1):
            found.setdefault(known.shut(row[:index]), set()).add(len(row) - index)
    return tuple((lot, min(found[lot]), max(found[lot])) for lot in oracle.lot_order(found))


def verdict(known):
    if len(known.lengths) == 1:
        return "one", spans(known)
    return ("many", known.first_failing) + two_rows(known)


def two_rows(known):
    held, p, q = known.first_failing
    longer = oracle.completed(known.points, known.made, held + (q, p))
    return longer, oracle.without(longer, len(held))


def is_right_table(known, value):
    """Point 70, condition by condition."""
    if type(value) is not tuple or any(type(entry) is not tuple or len(entry) != 3 for entry in value):
        return False
    table = {}
    for lot, low, high in value:
        if type(lot) is not tuple or not all(is_whole(p, 0, known.points - 1) for p in lot):
            return False
        if lot != tuple(sorted(set(lot))) or known.shut(lot) != lot or lot in table:
            return False
        if not is_whole(low, 0, 12) or not is_whole(high, 0, 12):
            return False
        table[lot] = low, high
    if known.shut(()) not in table or table.get(tuple(range(known.points)), (0, 0))[0] != 0:
        return False
    for lot, (low, high) in table.items():
        for above in {known.shut(lot + (p,)) for p in range(known.points) if p not in lot}:
            if above not in table or low > 1 + table[above][0] or high < 1 + table[above][1]:
                return False
    return True


def first_span(known, table):
    return next((low, high) for lot, low, high in table if lot == known.shut(()))


def are_right_rows(known, rows, low, high):
    """Whether these are tuples of tight full rows with low to high points."""
    if type(rows) is not tuple or any(type(row) is not tuple for row in rows):
        return False
    if any(type(p) is not int for row in rows for p in row) or any(row not in known.full for row in rows):
        return False
    return [len(row) for row in rows] == list(range(low, high + 1))


def is_failing(known, value):
    if type(value) is not tuple or len(value) != 3 or type(value[0]) is not tuple:
        return False
    held, p, q = value
    if not all(is_whole(x, 0, known.points - 1) for x in held + (p, q)):
        return False
    return known.is_tight(held) and known.failed(held, p, q) == 0


def is_pair(known, longer, shorter):
    if type(longer) is not tuple or type(shorter) is not tuple:
        return False
    if any(type(p) is not int for p in longer + shorter) or not {longer, shorter} <= set(known.full):
        return False
    return any(longer[:index] + longer[index + 1:] == shorter for index in range(len(longer)))


def kind_of_paper(known, value):
    """The first word of a right paper, or None."""
    if type(value) is not tuple or not value:
        return None
    if value[0] == "one" and len(value) == 2 and is_right_table(known, value[1]):
        low, high = first_span(known, value[1])
        return "one" if low == high else None
    if value[0] == "lengths" and len(value) == 3 and is_right_table(known, value[2]):
        return "lengths" if are_right_rows(known, value[1], *first_span(known, value[2])) else None
    if value[0] == "many" and len(value) == 4 and is_failing(known, value[1]):
        return "many" if is_pair(known, value[2], value[3]) else None
    return None


class Engine:
    """All lists of told moves in a row, and which is the present one; refusals are returned."""

    def __init__(self, points, told=()):
        self.points, self.lists, self.present, self.version, self.kept = points, [list(told)], 0, 0, None

    @property
    def told(self):
        return self.lists[self.present]

    def is_move(self, value):
        right = type(value) is tuple and all(type(image) is int for image in value)
        return right and sorted(value) == list(range(self.points))

    def edited(self, told, edit):
        """The list after the edit, or the error that is due."""
        if edit[0] == "drop":
            good = is_whole(edit[1], 0, len(told) - 1)
            return told[:edit[1]] + told[edit[1] + 1:] if good else BadNumber(edit[1], 0, len(told) - 1)
        if edit[0] == "change" and not is_whole(edit[1], 0, len(told) - 1):
            return BadNumber(edit[1], 0, len(told) - 1)
        if not self.is_move(edit[-1]):
            return NotAMove(0)
        if edit[0] == "tell" and len(told) == 8:
            return TooMany("told", 8)
        after = told + [edit[1]] if edit[0] == "tell" else told[:edit[1]] + [edit[2]] + told[edit[1] + 1:]
        return after if oracle.made_up_to(self.points, after, 400) else TooMany("made", 400)

    def edit_all(self, edits):
        told = self.told
        for edit in edits:
            told = self.edited(told, edit)
            if not isinstance(told, list):
                return told
        if edits:
            self.lists = self.lists[:self.present + 1] + [told]
            self.present += 1
            self.version += 1
        return len(told)

    def step(self, by):
        if not 0 <= self.present + by < len(self.lists):
            return NothingToUndo() if by < 0 else NothingToRedo()
        self.present += by
        self.version += 1
        return len(self.told)

    @property
    def known(self):
        return known_world(self.points, tuple(self.told))


@functools.lru_cache(maxsize=None)
def known_world(points, told):
    return oracle.Known("", None, points, list(told), oracle.made(points, told))


NUMBER = "(?:0|[1-9][0-9]{0,2})"
FORMS = {word: word for word in "undo redo size orbits lengths one failing pair keep check".split()}
FORMS |= {word: f"{word} ({NUMBER})" for word in ("points", "drop", "row")}
FORMS |= {word: f"{word}((?: {NUMBER})*)" for word in ("closure", "tight", "full", "complete", "duel")}
FORMS |= {"tell": "tell (.*)", "change": f"change ({NUMBER}) (.*)"}


def move_of(points, text):
    """The move of which the text is the written form, or None."""
    if text == "()":
        return tuple(range(points))
    if not re.fullmatch(rf"(?:\({NUMBER}(?: {NUMBER})+\))+", text):
        return None
    rows = [[int(word) for word in group.split(" ")] for group in text[1:-1].split(")(")]
    met = [p for row in rows for p in row]
    if len(set(met)) < len(met) or max(met) >= points:
        return None
    if any(row[0] != min(row) for row in rows) or [row[0] for row in rows] != sorted(row[0] for row in rows):
        return None
    image = {row[i - 1]: row[i] for row in rows for i in range(len(row))}
    return tuple(image.get(p, p) for p in range(points))


def written(row):
    return "(" + " ".join(str(p) for p in row) + ")"


class Script:
    """What a script answers, line by line."""

    def __init__(self):
        self.engine = None

    def answer(self, line):
        word = line.split(" ")[0]
        if word not in FORMS:
            return "error BadText"
        if self.engine is None and word != "points":
            return "error NoWorld"
        match = re.fullmatch(FORMS[word], line)
        if not match:
            return "error BadText"
        if word == "points":
            return self.start(int(match[1]))
        if word in ("tell", "change"):
            move = move_of(self.engine.points, match.groups()[-1])
            if move is None:
                return "error BadText"
            return self.edit(("tell", move) if word == "tell" else ("change", int(match[1]), move))
        if word in ("drop", "row"):
            return self.edit(("drop", int(match[1]))) if word == "drop" else self.row(int(match[1]))
        if word in ("undo", "redo"):
            return self.told(self.engine.step(-1 if word == "undo" else 1))
        if match.groups():
            return self.about_row(word, tuple(int(p) for p in match[1].split()))
        if word == "keep":
            self.engine.kept = verdict(self.engine.known)
            return "kept " + self.engine.kept[0]
        if word == "check" and self.engine.kept is None:
            return "error NothingKept"
        return word + " " + getattr(self, word)(self.engine.known)

    def start(self, points):
        if points > 12:
            return "error BadNumber"
        self.engine = Engine(points)
        return f"points {points}"

    def told(self, result):
        return f"told {result}" if isinstance(result, int) else f"error {type(result).__name__}"

    def edit(self, edit):
        return self.told(self.engine.edit_all([edit]))

    def row(self, length):
        known = self.engine.known
        if length > 12:
            return "error BadNumber"
        if length not in known.lengths:
            return "error NoSuchLength"
        return "row " + written(min(row for row in known.full if len(row) == length))

    def about_row(self, word, row):
        known = self.engine.known
        if len(row) > 24:
            return "error TooMany"
        if any(p >= known.points for p in row):
            return "error NotAPoint"
        loose = [index for index, point in enumerate(row) if point in known.shut(row[:index])]
        if word == "closure":
            return "closure " + written(known.shut(row))
        if word == "tight":
            return f"tight no {loose[0]}" if loose else "tight yes"
        if word == "full":
            return "full " + ("yes" if known.is_full(row) else "no")
        if word == "complete":
            return "complete " + written(oracle.completed(known.points, known.made, row))
        if loose:
            return "error NotTight"
        locks = [p for p in range(known.points) if p not in known.shut(row) and not self.wins(known, row + (p,))]
        return f"duel {locks[0]}" if locks else "duel none"

    def wins(self, known, row):
        return any(not self.wins(known, row + (p,)) for p in range(known.points) if p not in known.shut(row))

    def size(self, known):
        return str(len(known.made))

    def orbits(self, known):
        lots = sorted({tuple(sorted({move[p] for move in known.made})) for p in range(known.points)})
        return "".join(written(lot) for lot in lots) if lots else "-"

    def lengths(self, known):
        return " ".join(str(length) for length in known.lengths)

    def one(self, known):
        return "yes" if len(known.lengths) == 1 else "no"

    def failing(self, known):
        if known.first_failing is None:
            return "none"
        held, p, q = known.first_failing
        return f"{written(held)} {p} {q}"

    def pair(self, known):
        return " ".join(written(row) for row in two_rows(known)) if known.first_failing else "none"

    def check(self, known):
        return "yes" if kind_of_paper(known, self.engine.kept) else "no"
