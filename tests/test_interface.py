"""The interface: names, the files in which they stand, parameters and defaults (points 5 and 6)."""

import ast
import importlib
import inspect
import os
import unittest

import heldorder
from heldorder.tally import Tally
from heldorder.wordbooks import Book
from heldorder.worlds import World
from tests.support import Case

FUNCTIONS = {
    "moves": [
        "is_move(value)", "still_move(points)", "compose(first, second)", "opposite(move)", "power(move, times)",
        "in_turn(points, moves)", "carried(move, row)", "renamed(move, by)", "held_points(move)",
        "moved_points(move)", "cycles(move)", "from_cycles(points, rows)", "round_length(move)",
    ],
    "movetext": [
        "format_move(move)", "parse_move(points, text, *, loose=False)", "format_world(points, moves)",
        "parse_world(text)",
    ],
    "worlds": ["make_all(points, moves=())", "is_closed_list(points, moves)", "needless_told(world)"],
    "orbits": [
        "orbit(world, point)", "orbits(world)", "same_orbit(world, first, second)", "carriers(world, start, goal)",
        "spelling(world, move)", "is_spelling(world, move, indexes)", "longest_spelling(world)",
        "way(world, start, goal)", "is_way(world, start, goal, indexes)",
    ],
    "holding": [
        "holders(world, lot)", "holder_world(world, lot)", "movers(world, lot, point)",
        "first_mover(world, lot, point)", "is_mover(world, lot, point, move)", "holder_counts(world, row)",
        "orbit_under(world, lot, point)", "row_images(world, row)", "common_held(points, moves)",
    ],
    "rows": [
        "loose_indexes(world, row)", "is_tight(world, row)", "is_full(world, row)", "is_lean(world, row)",
        "tight_part(world, row)", "completed(world, row)", "needless_indexes(world, row)",
        "tightness_proof(world, row)", "shows_tight(world, row, moves)", "move_by_images(world, row, images)",
    ],
    "listing": [
        "count_full_rows(world, *, length=None)", "full_rows(world, *, limit=2000)",
        "tight_rows(world, length, *, limit=2000)",
    ],
    "closure": [
        "closure(world, lot)", "is_closed(world, lot)", "same_hold(world, first, second)", "marks(world)",
        "closure_by_marks(points, lots, lot)",
    ],
    "flats": [
        "closed_lots(world)", "lots_above(world, lot)", "covers(world, lot)", "join_lots(world, first, second)",
        "meet_lots(world, first, second)", "height(world)", "longest_chain(world)", "is_chain(world, lots)",
        "chain_of_row(world, row)", "row_of_chain(world, lots)",
    ],
    "exchange": [
        "failed_condition(world, held, p, q)", "is_failing(world, value)", "failing_pairs(world, lot)",
        "failing_from(world, lot, p, q)", "exchanges_at(world, lot)", "exchanges(world)", "first_failing(world)",
        "least_holds(world, point)", "lopsided_hold(world)", "overlapping_lots(world, lot)",
    ],
    "neighbours": [
        "two_rows(world, failing)", "left_out(longer, shorter)", "is_neighbour_pair(world, longer, shorter)",
        "failing_of_pair(world, longer, shorter)", "walk_back(world, shorter, longer)",
        "is_walk(world, shorter, longer, rows)", "find_failing(world, first, second)",
    ],
    "stretch": [
        "tight_count(world, row)", "swapped(row, index)", "swap_path(first, second)", "path_words(first, second)",
        "count_path(world, first, second)", "rows_between(world, first, second)",
        "row_between(world, first, second, length)", "lengths(world)", "lengths_above(world, lot)",
        "one_length(world)", "row_of_length(world, length)", "is_stretch(world, rows)",
    ],
    "reorder": [
        "every_order_tight(world, row)", "bad_order(world, row)", "is_bad_order(world, value)",
        "count_tight_orders(world, row)", "order_from_failing(world, failing)", "shorter_from_order(world, value)",
        "order_matters(world)", "first_bad_order(world)",
    ],
    "bases": [
        "base_lots(world)", "lean_lots(world)", "is_base_lot(world, lot)",
        "exchange_point(world, first, second, point)", "base_path(world, first, second)",
        "is_base_path(world, first, second, value)", "inner_lengths(world, lot)", "rank(world, lot)",
        "rank_defect(world, first, second)", "rank_levels(world)",
    ],
    "wordbooks": [
        "is_word(modulus, columns, value)", "add_words(modulus, first, second)", "zero_columns(word)",
        "words_zero_on(book, lot)", "column_closure(book, lot)", "loose_columns(book, row)", "column_rows(book)",
        "column_lengths(book)", "word_move(modulus, word)", "move_word(modulus, move)", "book_world(book)",
        "columns_of_row(book, row)", "points_of_columns(book, row, *, worth=0)",
    ],
    "makers": [
        "ring(points)", "polygon(points)", "all_moves(points)", "cube_corners(size)", "cube_sides(size)",
        "side_by_side(first, second)", "within(inner, outer)", "renamed_world(world, by)",
    ],
    "extremes": [
        "least_length(world)", "greatest_length(world)", "least_row(world)", "greatest_row(world)",
        "greedy_row(world)", "lazy_row(world)", "length_bounds(points, made)", "short_paper(world, size)",
        "shows_none_full(world, size, value)",
    ],
    "duel": [
        "allowed_locks(world, row)", "is_winning(world, row, *, last_loses=False)",
        "winning_lock(world, row, *, last_loses=False)", "duel_value(world, row)",
        "losing_lots(world, *, last_loses=False)", "is_losing_list(world, value, *, last_loses=False)",
    ],
    "tally": [
        "world_tally(world)", "count_orbits(world)", "count_row_orbits(world, length)",
        "row_orbit_heads(world, length, *, limit=2000)", "shape(move)", "shapes(world)", "exact_counts(world)",
    ],
    "papers": [
        "span_table(world)", "is_right_table(world, value)", "is_length_paper(world, value)",
        "is_verdict(world, value)", "is_right(world, value)", "length_paper(world)", "verdict(world)",
    ],
    "papertext": ["has_paper_form(value)", "format_paper(value)", "parse_paper(text)"],
    "script": ["run_script(text)"],
}

# Each class with its properties, and the methods that its own body must hold.
CLASSES = {
    "worlds": {"World": (
        ["points", "told", "made"],
        ["__init__(self, points, moves=())", "__len__(self)", "__iter__(self)", "__contains__(self, value)",
         "__eq__(self, other)"],
    )},
    "listing": {"RowBook": (
        ["lengths"],
        ["__init__(self, world, *, limit=2000)", "__len__(self)", "__iter__(self)", "__contains__(self, value)",
         "of_length(self, length)"],
    )},
    "wordbooks": {"Book": (
        ["modulus", "columns", "told", "made"],
        ["__init__(self, modulus, columns, words=())", "__len__(self)", "__iter__(self)", "__contains__(self, value)"],
    )},
    "duel": {"Duel": (
        ["row", "turn", "over", "winner", "allowed"],
        ["__init__(self, world, *, last_loses=False)", "lock(self, point)", "undo(self)", "best_lock(self)"],
    )},
    "tally": {"Tally": (
        ["counts", "points", "total"],
        ["__init__(self, counts)", "at(self, k)", "of_moves(points, moves)", "__mul__(self, other)",
         "__add__(self, other)", "__eq__(self, other)"],
    )},
    "engine": {"Engine": (
        ["points", "told", "version", "kept"],
        ["__init__(self, points, moves=())", "tell(self, move)", "drop(self, index)", "change(self, index, move)",
         "edit_all(self, edits)", "undo(self)", "redo(self)", "present_world(self)", "ask(self, name)", "keep(self)",
         "take(self, value)", "check(self)"],
    )},
}

EXAMPLE = World(6, [(1, 2, 3, 0, 5, 4)])
THREE = World(3, [(1, 0, 2), (0, 2, 1)])
BOOK = Book(4, 2, [(1, 2)])
ROUND = (1, 2, 3, 0, 5, 4)
MANY = ("many", ((), 0, 4), (4, 0), (0,))

# Each function with arguments by name, as lists wherever a list may be passed.
CALLS = {
    "moves": {
        "is_move": {"value": ROUND}, "still_move": {"points": 3}, "compose": {"first": (1, 2, 0), "second": (0, 2, 1)},
        "opposite": {"move": ROUND}, "power": {"move": ROUND, "times": -3},
        "in_turn": {"points": 6, "moves": [ROUND, ROUND]}, "carried": {"move": ROUND, "row": [0, 5, 0]},
        "renamed": {"move": (1, 0, 2), "by": (1, 2, 0)}, "held_points": {"move": (2, 1, 0)},
        "moved_points": {"move": (2, 1, 0)}, "cycles": {"move": ROUND},
        "from_cycles": {"points": 4, "rows": [[3, 1], (), [2]]}, "round_length": {"move": ROUND},
    },
    "movetext": {
        "format_move": {"move": ROUND}, "parse_move": {"points": 4, "text": "(2)(3 1)", "loose": True},
        "format_world": {"points": 6, "moves": [ROUND, ROUND]}, "parse_world": {"text": "points 2\nmove (0 1)\n"},
    },
    "worlds": {
        "make_all": {"points": 6, "moves": [ROUND]}, "is_closed_list": {"points": 2, "moves": [(0, 1), (1, 0)]},
        "needless_told": {"world": World(2, [(1, 0), (0, 1)])},
    },
    "orbits": {
        "orbit": {"world": EXAMPLE, "point": 4}, "orbits": {"world": EXAMPLE},
        "same_orbit": {"world": EXAMPLE, "first": 4, "second": 5},
        "carriers": {"world": EXAMPLE, "start": 4, "goal": 5}, "spelling": {"world": EXAMPLE, "move": ROUND},
        "is_spelling": {"world": EXAMPLE, "move": ROUND, "indexes": [0]}, "longest_spelling": {"world": EXAMPLE},
        "way": {"world": EXAMPLE, "start": 0, "goal": 2},
        "is_way": {"world": EXAMPLE, "start": 0, "goal": 2, "indexes": [0, 0]},
    },
    "holding": {
        "holders": {"world": EXAMPLE, "lot": [5, 4, 5]}, "holder_world": {"world": EXAMPLE, "lot": [5, 4, 5]},
        "movers": {"world": EXAMPLE, "lot": [5, 4, 5], "point": 1},
        "first_mover": {"world": EXAMPLE, "lot": [5, 4, 5], "point": 1},
        "is_mover": {"world": EXAMPLE, "lot": [], "point": 1, "move": ROUND},
        "holder_counts": {"world": EXAMPLE, "row": [5, 4, 0]},
        "orbit_under": {"world": EXAMPLE, "lot": [5, 4, 5], "point": 1},
        "row_images": {"world": EXAMPLE, "row": [5, 0]}, "common_held": {"points": 6, "moves": [ROUND]},
    },
    "rows": {
        "loose_indexes": {"world": EXAMPLE, "row": [0, 4]}, "is_tight": {"world": EXAMPLE, "row": [0, 4]},
        "is_full": {"world": EXAMPLE, "row": [0, 4]}, "is_lean": {"world": EXAMPLE, "row": [0, 4]},
        "tight_part": {"world": EXAMPLE, "row": [0, 4]}, "completed": {"world": EXAMPLE, "row": [5, 4]},
        "needless_indexes": {"world": EXAMPLE, "row": [4, 0]}, "tightness_proof": {"world": EXAMPLE, "row": [4, 0]},
        "shows_tight": {"world": EXAMPLE, "row": [4], "moves": (ROUND,)},
        "move_by_images": {"world": EXAMPLE, "row": [4, 0], "images": [5, 1]},
    },
    "listing": {
        "count_full_rows": {"world": EXAMPLE, "length": 2}, "full_rows": {"world": EXAMPLE, "limit": 12},
        "tight_rows": {"world": EXAMPLE, "length": 1, "limit": 6},
    },
    "closure": {
        "closure": {"world": EXAMPLE, "lot": [5, 5]}, "is_closed": {"world": EXAMPLE, "lot": [5, 4, 5]},
        "same_hold": {"world": EXAMPLE, "first": [5], "second": [4, 4]}, "marks": {"world": EXAMPLE},
        "closure_by_marks": {"points": 4, "lots": [[2, 0, 2], [0, 2, 1]], "lot": [2, 2]},
    },
    "flats": {
        "closed_lots": {"world": EXAMPLE}, "lots_above": {"world": EXAMPLE, "lot": []},
        "covers": {"world": EXAMPLE, "lot": [4]}, "join_lots": {"world": EXAMPLE, "first": [4], "second": []},
        "meet_lots": {"world": EXAMPLE, "first": [4], "second": [0]}, "height": {"world": EXAMPLE},
        "longest_chain": {"world": EXAMPLE}, "is_chain": {"world": EXAMPLE, "lots": [(), (0, 1, 2, 3, 4, 5)]},
        "chain_of_row": {"world": EXAMPLE, "row": [4]},
        "row_of_chain": {"world": EXAMPLE, "lots": [(), (0, 1, 2, 3, 4, 5)]},
    },
    "exchange": {
        "failed_condition": {"world": EXAMPLE, "held": [4], "p": 0, "q": 1},
        "is_failing": {"world": EXAMPLE, "value": ((), 0, 4)}, "failing_pairs": {"world": EXAMPLE, "lot": []},
        "failing_from": {"world": EXAMPLE, "lot": [], "p": 0, "q": 4},
        "exchanges_at": {"world": EXAMPLE, "lot": [4, 4]}, "exchanges": {"world": EXAMPLE},
        "first_failing": {"world": EXAMPLE}, "least_holds": {"world": EXAMPLE, "point": 4},
        "lopsided_hold": {"world": EXAMPLE}, "overlapping_lots": {"world": EXAMPLE, "lot": []},
    },
    "neighbours": {
        "two_rows": {"world": EXAMPLE, "failing": ((), 0, 4)}, "left_out": {"longer": [4, 0], "shorter": [0]},
        "is_neighbour_pair": {"world": EXAMPLE, "longer": [4, 0], "shorter": [0]},
        "failing_of_pair": {"world": EXAMPLE, "longer": [4, 0], "shorter": [0]},
        "walk_back": {"world": EXAMPLE, "shorter": [0], "longer": [4, 0]},
        "is_walk": {"world": EXAMPLE, "shorter": [0], "longer": [4, 0], "rows": [(0,)]},
        "find_failing": {"world": EXAMPLE, "first": [0], "second": [4, 0]},
    },
    "stretch": {
        "tight_count": {"world": EXAMPLE, "row": [4, 5, 0]}, "swapped": {"row": [4, 5, 0], "index": 1},
        "swap_path": {"first": 2, "second": 3}, "path_words": {"first": [4, 0], "second": [1]},
        "count_path": {"world": EXAMPLE, "first": [4, 0], "second": [1]},
        "rows_between": {"world": EXAMPLE, "first": [4, 0], "second": [1]},
        "row_between": {"world": EXAMPLE, "first": [4, 0], "second": [1], "length": 2},
        "lengths": {"world": EXAMPLE}, "lengths_above": {"world": EXAMPLE, "lot": [4, 4]},
        "one_length": {"world": EXAMPLE}, "row_of_length": {"world": EXAMPLE, "length": 2},
        "is_stretch": {"world": EXAMPLE, "rows": [(0,), (4, 0)]},
    },
    "reorder": {
        "every_order_tight": {"world": EXAMPLE, "row": [4, 0]}, "bad_order": {"world": EXAMPLE, "row": [4, 0]},
        "is_bad_order": {"world": EXAMPLE, "value": ((4, 0), (0, 4), 1)},
        "count_tight_orders": {"world": EXAMPLE, "row": [4, 0]},
        "order_from_failing": {"world": EXAMPLE, "failing": ((), 0, 4)},
        "shorter_from_order": {"world": EXAMPLE, "value": ((4, 0), (0, 4), 1)}, "order_matters": {"world": EXAMPLE},
        "first_bad_order": {"world": EXAMPLE},
    },
    "bases": {
        "base_lots": {"world": EXAMPLE}, "lean_lots": {"world": EXAMPLE},
        "is_base_lot": {"world": EXAMPLE, "lot": [0, 4, 4]},
        "exchange_point": {"world": EXAMPLE, "first": [0, 4], "second": [1, 5], "point": 0},
        "base_path": {"world": THREE, "first": [0, 1], "second": [2, 1]},
        "is_base_path": {"world": THREE, "first": [0, 1], "second": [2, 1], "value": [(0, 1), (1, 2)]},
        "inner_lengths": {"world": EXAMPLE, "lot": [4, 0]}, "rank": {"world": THREE, "lot": [1, 1]},
        "rank_defect": {"world": THREE, "first": [0, 1], "second": [2, 1]}, "rank_levels": {"world": THREE},
    },
    "wordbooks": {
        "is_word": {"modulus": 4, "columns": 2, "value": (3, 0)},
        "add_words": {"modulus": 4, "first": (3, 0), "second": (3, 1)}, "zero_columns": {"word": (3, 0)},
        "words_zero_on": {"book": BOOK, "lot": [1, 1]}, "column_closure": {"book": BOOK, "lot": [0, 0]},
        "loose_columns": {"book": BOOK, "row": [1, 0, 1]}, "column_rows": {"book": BOOK},
        "column_lengths": {"book": BOOK}, "word_move": {"modulus": 4, "word": (1, 2)},
        "move_word": {"modulus": 4, "move": (1, 2, 3, 0, 6, 7, 4, 5)}, "book_world": {"book": BOOK},
        "columns_of_row": {"book": BOOK, "row": [7, 0, 7]},
        "points_of_columns": {"book": BOOK, "row": [1, 0, 1], "worth": 3},
    },
    "makers": {
        "ring": {"points": 3}, "polygon": {"points": 5}, "all_moves": {"points": 4}, "cube_corners": {"size": 2},
        "cube_sides": {"size": 3}, "side_by_side": {"first": THREE, "second": EXAMPLE},
        "within": {"inner": EXAMPLE, "outer": World(2, [(1, 0)])}, "renamed_world": {"world": THREE, "by": (1, 2, 0)},
    },
    "extremes": {
        "least_length": {"world": EXAMPLE}, "greatest_length": {"world": EXAMPLE}, "least_row": {"world": EXAMPLE},
        "greatest_row": {"world": EXAMPLE}, "greedy_row": {"world": EXAMPLE}, "lazy_row": {"world": EXAMPLE},
        "length_bounds": {"points": 6, "made": 4}, "short_paper": {"world": THREE, "size": 1},
        "shows_none_full": {"world": EXAMPLE, "size": 0, "value": (((), ROUND),)},
    },
    "duel": {
        "allowed_locks": {"world": EXAMPLE, "row": [4]},
        "is_winning": {"world": EXAMPLE, "row": [4], "last_loses": True},
        "winning_lock": {"world": EXAMPLE, "row": [], "last_loses": True},
        "duel_value": {"world": EXAMPLE, "row": [4]}, "losing_lots": {"world": EXAMPLE, "last_loses": True},
        "is_losing_list": {"world": EXAMPLE, "value": None, "last_loses": True},
    },
    "tally": {
        "world_tally": {"world": EXAMPLE}, "count_orbits": {"world": EXAMPLE},
        "count_row_orbits": {"world": EXAMPLE, "length": 2},
        "row_orbit_heads": {"world": EXAMPLE, "length": 2, "limit": 36}, "shape": {"move": ROUND},
        "shapes": {"world": EXAMPLE}, "exact_counts": {"world": EXAMPLE},
    },
    "papers": {
        "span_table": {"world": EXAMPLE}, "is_right_table": {"world": World(1), "value": (((0,), 0, 12),)},
        "is_length_paper": {"world": World(1), "value": ("lengths", ((),), (((0,), 0, 0),))},
        "is_verdict": {"world": EXAMPLE, "value": MANY}, "is_right": {"world": EXAMPLE, "value": MANY},
        "length_paper": {"world": EXAMPLE}, "verdict": {"world": EXAMPLE},
    },
    "papertext": {
        "has_paper_form": {"value": MANY}, "format_paper": {"value": MANY}, "parse_paper": {"text": "one\nlot (3) 0 12\n"},
    },
    "script": {"run_script": {"text": "points 2\ntell (0 1)\nlengths"}},
}


def described(function):
    """The name and the parameters as the document writes them, without annotations."""
    signature = inspect.signature(function)
    plain = [p.replace(annotation=inspect.Parameter.empty) for p in signature.parameters.values()]
    return function.__name__ + str(inspect.Signature(plain))


def shown(result):
    """What can be compared of a result, or of an argument."""
    if isinstance(result, Book):
        return result.modulus, result.columns, result.told, result.made
    if isinstance(result, Tally):
        return result.counts
    return (result.points, result.told, result.made) if isinstance(result, World) else result


def functions():
    for module, listed in FUNCTIONS.items():
        found = importlib.import_module(f"heldorder.{module}")
        for form in listed:
            yield module, form, getattr(found, form.partition("(")[0])


class Interface(Case):

    def test_the_package_holds_a_docstring_alone(self):
        with open(heldorder.__file__, encoding="ascii") as file:
            body = ast.parse(file.read()).body
        self.assertEqual(len(body), 1)
        self.assertIsInstance(body[0].value.value, str)
        self.assertEqual(os.path.basename(os.path.dirname(heldorder.__file__)), "heldorder")

    def test_functions(self):
        for module, form, function in functions():
            with self.subTest(function=form):
                self.assertEqual(described(function), form)
                self.assertEqual(function.__module__, f"heldorder.{module}")

    def test_classes(self):
        for module, classes in CLASSES.items():
            found = importlib.import_module(f"heldorder.{module}")
            for name, (properties, methods) in classes.items():
                kind = getattr(found, name)
                with self.subTest(name=name):
                    self.assertEqual(kind.__module__, f"heldorder.{module}")
                    for listed in properties:
                        self.assertIsInstance(vars(kind)[listed], property)
                    for form in methods:
                        held = vars(kind)[form.partition("(")[0]]
                        still = isinstance(held, staticmethod)
                        self.assertEqual(described(held.__func__ if still else held), form)
                        self.assertEqual(still, form == "of_moves(points, moves)")

    def test_arguments_by_position_and_by_name(self):
        for module, form, function in functions():
            named = CALLS[module][function.__name__]
            kinds = {p.name: p.kind for p in inspect.signature(function).parameters.values()}
            placed = [value for name, value in named.items() if kinds[name] == inspect.Parameter.POSITIONAL_OR_KEYWORD]
            rest = {name: value for name, value in named.items() if kinds[name] == inspect.Parameter.KEYWORD_ONLY}
            with self.subTest(function=form):
                self.same(shown(function(**named)), shown(function(*placed, **rest)))

    def test_equal_calls_give_equal_and_new_results(self):
        for module, form, function in functions():
            named = CALLS[module][function.__name__]
            with self.subTest(function=form):
                before = repr({name: shown(value) for name, value in named.items()})
                first = function(**named)
                text = repr(shown(first))
                if isinstance(first, list):
                    first.append("changed")
                    first.reverse()
                self.same(repr(shown(function(**named))), text)
                self.same(repr({name: shown(value) for name, value in named.items()}), before)

    def test_tuples_count_like_lists(self):
        for module, form, function in functions():
            named = CALLS[module][function.__name__]
            tuples = {name: tuple(value) if isinstance(value, list) else value for name, value in named.items()}
            with self.subTest(function=form):
                self.same(shown(function(**named)), shown(function(**tuples)))


if __name__ == "__main__":
    unittest.main()
