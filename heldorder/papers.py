"""Papers: what shows that a world has just these lengths, only one of them, or more than one.

Inside this module the spans of a table are kept by its lots, as numbers (see heldorder.closure): for each lot its low
and its high.
"""

from heldorder.closure import bits_of, in_lot_order, lot_of
from heldorder.exchange import first_failing, is_failing
from heldorder.listing import least_rows, whole_lot, world_steps
from heldorder.neighbours import is_neighbour_pair, two_rows
from heldorder.papertext import is_table
from heldorder.stretch import is_stretch


def span_table(world):
    """Each closed lot with the least and the greatest length above it, in the order of lots."""
    spans = _spans(world_steps(world))
    return tuple([(lot,) + spans[bits_of(lot)] for lot in in_lot_order([lot_of(bits) for bits in spans])])


def is_right_table(world, value):
    """Whether the value is a right table."""
    return _right_spans(world, value) is not None


def is_length_paper(world, value):
    """Whether the value is a right length paper."""
    if not isinstance(value, tuple) or len(value) != 3 or value[0] != "lengths":
        return False
    rows, spans = value[1], _right_spans(world, value[2])
    if spans is None or not isinstance(rows, tuple) or not is_stretch(world, rows):
        return False
    return _first_span(spans) == (len(rows[0]), len(rows[-1]))


def is_verdict(world, value):
    """Whether the value is a right verdict."""
    if not isinstance(value, tuple):
        return False
    if len(value) == 2 and value[0] == "one":
        return _is_one_length(_right_spans(world, value[1]))
    if len(value) == 4 and value[0] == "many":
        return is_failing(world, value[1]) and _is_tuple_pair(world, value[2], value[3])
    return False


def is_right(world, value):
    """Whether the value is a right paper."""
    return is_verdict(world, value) or is_length_paper(world, value)


def length_paper(world):
    """The right length paper of the span table and of the least row of each length."""
    steps = world_steps(world)
    whole = whole_lot(steps)
    # All lengths from the least to the greatest are met, in this order.
    rows = [level[whole] for level in least_rows(steps) if whole in level]
    return "lengths", tuple(rows), span_table(world)


def verdict(world):
    """The right verdict of the span table, or of the first failing and its two rows."""
    failing = first_failing(world)
    if failing is None:
        return "one", span_table(world)
    longer, shorter = two_rows(world, failing)
    return "many", failing, longer, shorter


def _spans(steps):
    """For each closed lot the least and the greatest length above it."""
    spans = {}
    # The lots above a lot are greater numbers, so they are known when they are needed.
    for closed in sorted(steps, reverse=True):
        above = [spans[after] for after in steps[closed].values()]
        low = min([span[0] + 1 for span in above], default=0)
        high = max([span[1] + 1 for span in above], default=0)
        spans[closed] = (low, high)
    return spans


def _right_spans(world, value):
    """The spans of a right table, or None if the value is none."""
    if not is_table(value) or any([entry[0] != lot_of(bits_of(entry[0])) for entry in value]):
        return None
    spans = {bits_of(lot): (low, high) for lot, low, high in value}
    steps = world_steps(world)
    # From the closure of the empty lot the lots above lead to each closed lot, so each must have its entry.
    if len(value) != len(spans) or sorted(spans) != sorted(steps):
        return None
    if spans[whole_lot(steps)][0] != 0:
        return None
    fits = [_is_span_below(spans[lot], spans[after]) for lot in steps for after in steps[lot].values()]
    return spans if all(fits) else None


def _is_span_below(span, above):
    """Whether the span of a lot has room for that of a lot above it, with one point more."""
    return span[0] <= 1 + above[0] and span[1] >= 1 + above[1]


def _first_span(spans):
    """The span of the closure of the empty lot, which lies in all other closed lots."""
    return spans[min(spans)]


def _is_one_length(spans):
    """Whether these are spans and that of the closure of the empty lot leaves one length."""
    if spans is None:
        return False
    low, high = _first_span(spans)
    return low == high


def _is_tuple_pair(world, longer, shorter):
    """Whether the values are tuples that form a neighbour pair."""
    if not isinstance(longer, tuple) or not isinstance(shorter, tuple):
        return False
    return is_neighbour_pair(world, longer, shorter)
