"""Each example of the document, and of README.md, gives what it shows."""

import builtins
import doctest
import os
import re
import unittest

from heldorder import errors
from tests.support import Case

EXAMPLES = r"""
>>> from heldorder.moves import compose
>>> compose((1, 2, 0), (0, 2, 1))
(2, 1, 0)

>>> from heldorder.moves import cycles
>>> cycles((2, 1, 4, 3, 0))
[(0, 2, 4)]

>>> from heldorder.movetext import parse_move
>>> parse_move(4, "(2)(3 1)", loose=True)
(0, 3, 2, 1)

>>> from heldorder.movetext import parse_move
>>> parse_move(4, "(3 1)")
raises BadText(1)

>>> from heldorder.worlds import World
>>> World(3, [(1, 0, 2), (0, 2, 1)]).made
[(0, 1, 2), (0, 2, 1), (1, 0, 2), (1, 2, 0), (2, 0, 1), (2, 1, 0)]

>>> from heldorder.listing import full_rows
>>> from heldorder.worlds import World
>>> full_rows(World(6, [(1, 2, 3, 0, 5, 4)]))
[(0,), (1,), (2,), (3,), (4, 0), (4, 1), (4, 2), (4, 3), (5, 0), (5, 1), (5, 2), (5, 3)]

>>> from heldorder.exchange import first_failing
>>> from heldorder.worlds import World
>>> first_failing(World(6, [(1, 2, 3, 0, 5, 4)]))
((), 0, 4)

>>> from heldorder.neighbours import two_rows
>>> from heldorder.worlds import World
>>> two_rows(World(6, [(1, 2, 3, 0, 5, 4)]), ((), 0, 4))
((4, 0), (0,))

>>> from heldorder.wordbooks import Book, column_rows
>>> column_rows(Book(4, 2, [(1, 2)]))
[(0,), (1, 0)]

>>> from heldorder.papertext import format_paper
>>> format_paper(("many", ((), 0, 4), (4, 0), (0,)))
'many\nfailing () 0 4\nlonger (4 0)\nshorter (0)\n'

>>> from heldorder.script import run_script
>>> run_script("points 6\ntell (0 1 2 3)(4 5)\nlengths\nfailing\ntight 4 5 0\nrow 3\nsize ")
['points 6', 'told 1', 'lengths 1 2', 'failing () 0 4', 'tight no 1', 'error NoSuchLength', 'error BadText']
"""


class Examples(Case):

    def test_each(self):
        for example in EXAMPLES.strip().split("\n\n"):
            *imports, call, result = example.split("\n")
            names = {}
            for line in imports:
                exec(line.removeprefix(">>> "), names)
            with self.subTest(call=call):
                raises = re.fullmatch(r"raises (\w+)\((.*)\)", result)
                if raises:
                    expected = getattr(errors, raises[1])(eval(raises[2]))
                    self.refused(expected, eval, call.removeprefix(">>> "), names)
                else:
                    self.assertEqual(repr(eval(call.removeprefix(">>> "), names)), result)

    def test_readme(self):
        path = os.path.join(os.path.dirname(os.path.dirname(os.path.abspath(__file__))), "README.md")
        with open(path, encoding="ascii") as file:
            blocks = re.findall(r"```\n(>>>.*?)```", file.read(), re.DOTALL)
        self.assertEqual(len(blocks), 1)
        # Showing a result, as doctest does, leaves it in the builtins.
        self.addCleanup(vars(builtins).pop, "_", None)
        examples = doctest.DocTestParser().get_doctest(blocks[0], {}, "README.md", path, 0)
        result = doctest.DocTestRunner(verbose=False).run(examples)
        self.assertEqual(result.failed, 0)
        self.assertGreater(result.attempted, 20)


if __name__ == "__main__":
    unittest.main()
