"""Engines: a list of told moves that can be edited, with its world, and one kept paper."""

from heldorder.checks import check_move_on, check_number
from heldorder.errors import (
    MOST_EDITS, BadEdit, NotAPaper, NothingKept, NothingToRedo, NothingToUndo, TooMany, UnknownName,
)
from heldorder.exchange import first_failing
from heldorder.flats import closed_lots
from heldorder.orbits import orbits
from heldorder.papers import is_right, verdict
from heldorder.papertext import has_paper_form
from heldorder.reorder import first_bad_order
from heldorder.stretch import lengths, one_length
from heldorder.worlds import World, make_all


class Engine:
    """A number of points, the told moves of the moment, and a kept paper."""

    def __init__(self, points, moves=()):
        # Only the refusals matter: the made moves are made anew for each present world.
        make_all(points, moves)
        self._points = points
        self._told = list(moves)
        # The lists to which undo and redo come back, each with the next one last.
        self._earlier = []
        self._undone = []
        self._version = 0
        self._kept = None

    @property
    def points(self):
        """The number of points."""
        return self._points

    @property
    def told(self):
        """The told moves of the moment, in order."""
        return list(self._told)

    @property
    def version(self):
        """The number of edits, undos and redos so far."""
        return self._version

    @property
    def kept(self):
        """The kept paper, or None."""
        return self._kept

    def tell(self, move):
        """Put the move at the end; return the number of told moves."""
        return self._edit_to(_with_told(self._points, self._told, move))

    def drop(self, index):
        """Remove the move at the index; return the number of told moves."""
        return self._edit_to(_with_dropped(self._told, index))

    def change(self, index, move):
        """Replace the move at the index; return the number of told moves."""
        return self._edit_to(_with_changed(self._points, self._told, index, move))

    def edit_all(self, edits):
        """Make all of the edits as one, or none; return the number of told moves."""
        if len(edits) > MOST_EDITS:
            raise TooMany("edits", MOST_EDITS)
        told = self._told
        for index, edit in enumerate(edits):
            told = _with_edit(self._points, told, index, edit)
        return self._edit_to(told) if edits else len(told)

    def undo(self):
        """Come back to the list in front of the last edit; return the number of told moves."""
        if not self._earlier:
            raise NothingToUndo()
        self._undone.append(self._told)
        return self._step_to(self._earlier.pop())

    def redo(self):
        """Come back to the list behind the edit undone last; return the number of told moves."""
        if not self._undone:
            raise NothingToRedo()
        self._earlier.append(self._told)
        return self._step_to(self._undone.pop())

    def present_world(self):
        """The world of the told moves of the moment."""
        return World(self._points, self._told)

    def ask(self, name):
        """The answer of the function of this name for the present world."""
        return _answer(self.present_world(), name)

    def keep(self):
        """Keep the verdict of the present world and return it."""
        self._kept = verdict(self.present_world())
        return self._kept

    def take(self, value):
        """Keep the value if it has the form of a paper."""
        if not has_paper_form(value):
            raise NotAPaper()
        self._kept = value

    def check(self):
        """Whether the kept paper is right for the present world."""
        if self._kept is None:
            raise NothingKept()
        return is_right(self.present_world(), self._kept)

    def _edit_to(self, told):
        """Make an edit that leads to this list."""
        self._earlier.append(self._told)
        self._undone = []
        return self._step_to(told)

    def _step_to(self, told):
        self._told = told
        self._version += 1
        return len(told)


def _with_told(points, told, move):
    """The list with the move at its end."""
    check_move_on(points, move)
    longer = told + [move]
    # For the refusals.
    make_all(points, longer)
    return longer


def _with_dropped(told, index):
    """The list without the move at the index."""
    check_number(index, 0, len(told) - 1)
    return told[:index] + told[index + 1:]


def _with_changed(points, told, index, move):
    """The list with the move in the place of the one at the index."""
    check_number(index, 0, len(told) - 1)
    check_move_on(points, move)
    other = told[:index] + [move] + told[index + 1:]
    make_all(points, other)
    return other


def _with_edit(points, told, place, edit):
    """The list after the edit, which stands at this place among the edits."""
    if not isinstance(edit, tuple):
        raise BadEdit(place)
    if len(edit) == 2 and edit[0] == "tell":
        return _with_told(points, told, edit[1])
    if len(edit) == 2 and edit[0] == "drop":
        return _with_dropped(told, edit[1])
    if len(edit) == 3 and edit[0] == "change":
        return _with_changed(points, told, edit[1], edit[2])
    raise BadEdit(place)


def _answer(world, name):
    """The answer for the world to the question of this name."""
    if name == "lengths":
        return lengths(world)
    if name == "one":
        return one_length(world)
    if name == "failing":
        return first_failing(world)
    if name == "closed":
        return closed_lots(world)
    if name == "orbits":
        return orbits(world)
    if name == "order":
        return first_bad_order(world)
    if name == "verdict":
        return verdict(world)
    raise UnknownName(name)
