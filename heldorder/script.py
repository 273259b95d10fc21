"""Scripts: commands to an engine, one in each line, and their answers."""

from heldorder.closure import closure
from heldorder.duel import winning_lock
from heldorder.engine import Engine
from heldorder.errors import MOST_LINES, BadText, HeldorderError, TooMany
from heldorder.exchange import first_failing
from heldorder.movetext import parse_move, written_row
from heldorder.neighbours import two_rows
from heldorder.orbits import orbits
from heldorder.rows import completed, is_full, loose_indexes
from heldorder.stretch import lengths, one_length, row_of_length

MOST_DIGITS = 3


def run_script(text):
    """The answers to the commands of the text, one for each line."""
    lines = text.split("\n")
    if lines[-1] == "":
        lines.pop()
    if len(lines) > MOST_LINES:
        raise TooMany("lines", MOST_LINES)
    engine = None
    answers = []
    for line in lines:
        engine, answer = _obey(engine, line)
        answers.append(answer)
    return answers


def _obey(engine, line):
    """The engine that stands after the line, and the answer."""
    word, gap, rest = line.partition(" ")
    if word != "points" and word not in COMMANDS:
        return engine, "error BadText"
    if word != "points" and engine is None:
        return engine, "error NoWorld"
    try:
        if word == "points":
            new = Engine(_read_number(rest))
            return new, f"points {new.points}"
        form, action = COMMANDS[word]
        arguments = _read_arguments(engine.points, form, gap, rest)
        return engine, action(engine, *arguments)
    except HeldorderError as error:
        return engine, f"error {type(error).__name__}"


def _read_arguments(points, form, gap, rest):
    """What stands behind a command with this form; an empty gap means that nothing does."""
    if form == "ROW":
        # Splitting the empty text would give one empty word.
        words = rest.split(" ") if gap else []
        return ([_read_number(word) for word in words],)
    if form == "N":
        return (_read_number(rest),)
    if form == "MOVE":
        return (parse_move(points, rest),)
    if form == "N MOVE":
        number, _, text = rest.partition(" ")
        return _read_number(number), parse_move(points, text)
    if gap:
        raise BadText(1)
    return ()


def _read_number(word):
    if len(word) > MOST_DIGITS or not word.isdigit() or str(int(word)) != word:
        raise BadText(1)
    return int(word)


def _tell(engine, move):
    return f"told {engine.tell(move)}"


def _drop(engine, index):
    return f"told {engine.drop(index)}"


def _change(engine, index, move):
    return f"told {engine.change(index, move)}"


def _undo(engine):
    return f"told {engine.undo()}"


def _redo(engine):
    return f"told {engine.redo()}"


def _size(engine):
    return f"size {len(engine.present_world())}"


def _orbits(engine):
    lots = orbits(engine.present_world())
    return "orbits " + ("".join([written_row(lot) for lot in lots]) if lots else "-")


def _closure(engine, row):
    return f"closure {written_row(closure(engine.present_world(), row))}"


def _tight(engine, row):
    loose = loose_indexes(engine.present_world(), row)
    return f"tight no {loose[0]}" if loose else "tight yes"


def _full(engine, row):
    return f"full {_yes_or_no(is_full(engine.present_world(), row))}"


def _complete(engine, row):
    return f"complete {written_row(completed(engine.present_world(), row))}"


def _lengths(engine):
    return " ".join(["lengths"] + [str(length) for length in lengths(engine.present_world())])


def _one(engine):
    return f"one {_yes_or_no(one_length(engine.present_world()))}"


def _row(engine, length):
    return f"row {written_row(row_of_length(engine.present_world(), length))}"


def _failing(engine):
    failing = first_failing(engine.present_world())
    if failing is None:
        return "failing none"
    held, p, q = failing
    return f"failing {written_row(held)} {p} {q}"


def _pair(engine):
    world = engine.present_world()
    failing = first_failing(world)
    if failing is None:
        return "pair none"
    longer, shorter = two_rows(world, failing)
    return f"pair {written_row(longer)} {written_row(shorter)}"


def _duel(engine, row):
    point = winning_lock(engine.present_world(), row)
    return "duel none" if point is None else f"duel {point}"


def _keep(engine):
    paper = engine.keep()
    return f"kept {paper[0]}"


def _check(engine):
    return f"check {_yes_or_no(engine.check())}"


def _yes_or_no(answer):
    return "yes" if answer else "no"


# For each command what follows it, as the document writes it, and what it does.
COMMANDS = {
    "tell": ("MOVE", _tell),
    "drop": ("N", _drop),
    "change": ("N MOVE", _change),
    "undo": ("", _undo),
    "redo": ("", _redo),
    "size": ("", _size),
    "orbits": ("", _orbits),
    "closure": ("ROW", _closure),
    "tight": ("ROW", _tight),
    "full": ("ROW", _full),
    "complete": ("ROW", _complete),
    "lengths": ("", _lengths),
    "one": ("", _one),
    "row": ("N", _row),
    "failing": ("", _failing),
    "pair": ("", _pair),
    "duel": ("ROW", _duel),
    "keep": ("", _keep),
    "check": ("", _check),
}
