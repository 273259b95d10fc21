"""The form of papers, and their written forms."""

from heldorder.checks import is_number, is_tuple_of
from heldorder.errors import MOST_LOTS, MOST_POINTS, MOST_ROW, BadText, NotAPaper
from heldorder.movetext import written_row

LEAST_MANY_LINES = 4
MOST_PAPER_ROWS = 13
LAST_POINT = 11


def has_paper_form(value):
    """Whether the value has the form of a paper."""
    if not isinstance(value, tuple):
        return False
    if len(value) == 2:
        return value[0] == "one" and is_table(value[1])
    if len(value) == 3:
        return value[0] == "lengths" and _is_rows(value[1]) and is_table(value[2])
    if len(value) != 4 or value[0] != "many" or not _is_entry(value[1], LAST_POINT):
        return False
    return _is_row(value[2]) and _is_row(value[3])


def is_table(value):
    """Whether the value has the form of a table."""
    if not isinstance(value, tuple) or len(value) > MOST_LOTS:
        return False
    return all([_is_entry(entry, MOST_POINTS) for entry in value])


def format_paper(value):
    """The written form of the paper."""
    if not has_paper_form(value):
        raise NotAPaper()
    if value[0] == "many":
        _, failing, longer, shorter = value
        lines = [_entry_line("failing", failing), _row_line("longer", longer), _row_line("shorter", shorter)]
    else:
        # Of these two kinds only a length paper has something between its kind and its table.
        rows = [_row_line("row", row) for part in value[1:-1] for row in part]
        lines = rows + [_entry_line("lot", entry) for entry in value[-1]]
    return "".join([line + "\n" for line in [value[0]] + lines])


def parse_paper(text):
    """The paper of which the text is the written form."""
    # The last piece stands behind the last line feed: it is no whole line, and good only if it is empty.
    *lines, rest = text.split("\n")
    paper = _read_paper(lines)
    missing = paper[0] == "many" and len(lines) < LEAST_MANY_LINES
    if rest or missing:
        raise BadText(len(lines) + 1)
    return paper


def _is_row(value):
    return is_tuple_of(MOST_POINTS, value)


def _is_rows(value):
    if not isinstance(value, tuple) or len(value) > MOST_PAPER_ROWS:
        return False
    return all([_is_row(row) for row in value])


def _is_entry(value, most):
    """Whether the value is a tuple of a paper row and two numbers up to this one."""
    if not isinstance(value, tuple) or len(value) != 3 or not _is_row(value[0]):
        return False
    return is_number(value[1], 0, most) and is_number(value[2], 0, most)


def _row_line(word, row):
    return f"{word} {written_row(row)}"


def _entry_line(word, entry):
    row, first, second = entry
    return f"{word} {written_row(row)} {first} {second}"


def _read_paper(lines):
    """The paper of the lines, of which the last ones may be missing."""
    if lines == [] or lines[0] not in ("one", "many", "lengths"):
        raise BadText(1)
    if lines[0] == "one":
        return "one", _read_table(lines, 1)
    if lines[0] == "many":
        return _read_many(lines)
    rows = _read_rows(lines)
    return "lengths", rows, _read_table(lines, 1 + len(rows))


def _read_many(lines):
    parts = []
    for index, line in enumerate(lines[1:]):
        part = _read_part(index, line)
        if part is None:
            raise BadText(index + 2)
        parts.append(part)
    return ("many",) + tuple(parts)


def _read_part(index, line):
    """The failing or the row that the line behind `many` at this index must mean, or None."""
    if index == 0:
        return _read_entry("failing", LAST_POINT, line)
    if index == 1:
        return _read_row_line("longer", line)
    return _read_row_line("shorter", line) if index == 2 else None


def _read_rows(lines):
    """The rows of the lines behind the first one, up to the first line that cannot be one of them."""
    rows = []
    for line in lines[1:1 + MOST_PAPER_ROWS]:
        row = _read_row_line("row", line)
        if row is None:
            break
        rows.append(row)
    return tuple(rows)


def _read_table(lines, start):
    """The table of the lines from the index `start` on."""
    table = []
    for index, line in enumerate(lines[start:]):
        entry = _read_entry("lot", MOST_POINTS, line)
        if entry is None or index == MOST_LOTS:
            raise BadText(start + index + 1)
        table.append(entry)
    return tuple(table)


def _read_row_line(word, line):
    first, _, rest = line.partition(" ")
    return _read_row(rest) if first == word else None


def _read_entry(word, most, line):
    """The row and the two numbers up to this one that stand behind the word, or None."""
    front, _, last = line.rpartition(" ")
    front, _, middle = front.rpartition(" ")
    row = _read_row_line(word, front)
    first, second = _read_number(middle, most), _read_number(last, most)
    if row is None or first is None or second is None:
        return None
    return row, first, second


def _read_row(text):
    """The paper row of which the text is the written form, or None."""
    if not text.startswith("(") or not text.endswith(")"):
        return None
    # Splitting the empty text would give one empty word.
    words = text[1:-1].split(" ") if text != "()" else []
    if len(words) > MOST_ROW:
        return None
    row = [_read_number(word, LAST_POINT) for word in words]
    return tuple(row) if None not in row else None


def _read_number(word, most):
    """The number up to this one of which the word is the written form, or None."""
    names = [str(number) for number in range(most + 1)]
    return names.index(word) if word in names else None
