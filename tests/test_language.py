"""The rules of LANGUAGE.md that can easily be seen in the files of the package, each by its number.

Some checks are narrower than the rule: what the package does not need is refused without a look at the exceptions.
"""

import ast
import os
import re
import unittest
import warnings

import heldorder

FOLDER = os.path.dirname(heldorder.__file__)

LIBRARY = {
    "math": {"gcd", "lcm", "isqrt", "comb", "perm", "factorial"},
    "heapq": {"heappush", "heappop", "heapify", "heapreplace", "heappushpop"},
    "itertools": {"chain", "accumulate", "pairwise", "islice", "zip_longest"},
    "collections": {"defaultdict", "deque"},
}
BUILTINS = set(
    "len range enumerate zip min max sum abs sorted reversed int str bool bytes list tuple dict set frozenset isinstance"
    " ord repr any all divmod pow iter next map property staticmethod classmethod super type getattr hasattr setattr"
    " ValueError TypeError KeyError IndexError LookupError ZeroDivisionError StopIteration NotImplemented".split()
)
METHODS = set(
    "append clear copy count endswith extend find get index insert isalnum isalpha isdigit islower isspace isupper items"
    " join keys ljust lower lstrip partition pop remove replace reverse rfind rjust rpartition rsplit rstrip setdefault"
    " split splitlines startswith strip update upper values zfill bit_length removeprefix removesuffix rindex isascii"
    " isdecimal add discard".split()
)
UNUSED_NAMES = set(
    "mro elements open input law version_info with_traceback add_note register attrgetter breakpoint builtins compile"
    " copyright credits delattr dir eval exec exit gc globals help id importlib license locals methodcaller os quit vars"
    " sys".split()
)
UNUSED_WORDS = (
    "typing|typing_extensions|enum|Enum|IntEnum|StrEnum|Flag|IntFlag|Generic|Protocol|ABC|ABCMeta|namedtuple|NamedTuple"
    "|TypedDict|TYPE_CHECKING|abstractmethod|_wall|_WallAttr"
)
SPECIAL = re.compile(
    "__(init|eq|repr|str|len|enter|exit|call|iter|lt|le|gt|ge|ne|add|sub|mul|and|or|xor|neg|bool|contains|getitem"
    "|setitem)__$"
)
REFUSED = (
    ast.AsyncFunctionDef, ast.AsyncFor, ast.AsyncWith, ast.Await, ast.Global, ast.GeneratorExp, ast.Yield, ast.YieldFrom,
    ast.Import, ast.Div, ast.MatMult,
)


def files():
    for name in sorted(os.listdir(FOLDER)):
        if name != "__pycache__":
            with open(os.path.join(FOLDER, name), encoding="utf-8") as file:
                text = file.read()
            yield name, text, ast.parse(text)


def functions_of(tree):
    return [node for node in ast.walk(tree) if isinstance(node, ast.FunctionDef)]


def bound_names(tree):
    """All names that a file binds: functions, classes, parameters, variables, imports."""
    for node in ast.walk(tree):
        if isinstance(node, (ast.FunctionDef, ast.ClassDef)):
            yield node.name
        elif isinstance(node, ast.arg):
            yield node.arg
        elif isinstance(node, ast.Name) and isinstance(node.ctx, ast.Store):
            yield node.id
        elif isinstance(node, ast.alias):
            yield node.asname or node.name
        elif isinstance(node, ast.ExceptHandler) and node.name:
            yield node.name


def parents(tree):
    return {child: node for node in ast.walk(tree) for child in ast.iter_child_nodes(node)}


def called(node):
    return node.func.id if isinstance(node, ast.Call) and isinstance(node.func, ast.Name) else None


def each_file(check):
    """The test that makes the check for each file of the package."""
    def test(self):
        for name, text, tree in files():
            with self.subTest(file=name):
                check(self, name, text, tree)
    return test


class Language(unittest.TestCase):

    def test_l1_l14_files(self):
        names = [name for name, _, _ in files()]
        self.assertIn("__init__.py", names)
        for name in names:
            self.assertRegex(name, r"^[a-z0-9_]+\.py$")

    @each_file
    def test_l10_l14_sizes_and_characters(self, name, text, tree):
        self.assertRegex(text, r"^[ -~\n]*$")
        self.assertLessEqual(len(text.splitlines()), 399)
        self.assertLessEqual(max(len(line) for line in text.splitlines()), 120)
        for node in functions_of(tree):
            self.assertLessEqual(node.end_lineno - node.lineno + 1, 40, node.name)

    def test_l2_l16_imports(self):
        trees = {name[:-3]: tree for name, _, tree in files()}
        needs = {}
        for name, tree in trees.items():
            needs[name] = set()
            for node in ast.walk(tree):
                if isinstance(node, ast.ImportFrom):
                    self.assertEqual(node.level, 0)
                    imported = {alias.name for alias in node.names}
                    self.assertFalse([alias for alias in node.names if alias.asname])
                    if node.module in LIBRARY:
                        self.assertLessEqual(imported, LIBRARY[node.module])
                        continue
                    package, _, module = node.module.partition(".")
                    self.assertEqual(package, "heldorder")
                    self.assertLessEqual(imported, self.defined(trees[module]), name)
                    needs[name].add(module)
        while needs:
            free = [name for name in needs if not needs[name] & set(needs)]
            self.assertTrue(free, f"imports in a circle: {sorted(needs)}")
            for name in free:
                del needs[name]

    def defined(self, tree):
        names = {node.name for node in tree.body if isinstance(node, (ast.FunctionDef, ast.ClassDef))}
        return names | {node.targets[0].id for node in tree.body if isinstance(node, ast.Assign)}

    @each_file
    def test_l3_l15_module_level(self, name, text, tree):
        for place, node in enumerate(tree.body):
            docstring = place == 0 and isinstance(node, ast.Expr) and isinstance(node.value.value, str)
            self.assertTrue(
                docstring or isinstance(node, (ast.ImportFrom, ast.FunctionDef, ast.ClassDef, ast.Assign))
            )
        names = [node.name for node in tree.body if isinstance(node, (ast.FunctionDef, ast.ClassDef))]
        names += [target.id for node in tree.body if isinstance(node, ast.Assign) for target in node.targets]
        names += [alias.name for node in tree.body if isinstance(node, ast.ImportFrom) for alias in node.names]
        self.assertEqual(len(names), len(set(names)))

    @each_file
    def test_l3_plain_values(self, name, text, tree):
        functions = set()
        for node in tree.body:
            if isinstance(node, ast.FunctionDef):
                functions.add(node.name)
            elif isinstance(node, ast.Assign):
                self.assertEqual(len(node.targets), 1)
                for part in ast.walk(node.value):
                    plain = isinstance(part, (ast.Constant, ast.Tuple, ast.Dict, ast.Load))
                    self.assertTrue(plain or isinstance(part, ast.Name) and part.id in functions, ast.unparse(node))

    @each_file
    def test_l4_l5_decorators_and_methods(self, name, text, tree):
        within = {node for kind in ast.walk(tree) if isinstance(kind, ast.ClassDef) for node in kind.body}
        for node in ast.walk(tree):
            if isinstance(node, ast.ClassDef):
                self.assertEqual(node.decorator_list, [])
            elif isinstance(node, ast.FunctionDef):
                words = {ast.unparse(decorator) for decorator in node.decorator_list}
                self.assertLessEqual(words, {"property", "staticmethod", "classmethod", f"{node.name}.setter"})
                self.assertTrue(not words or node in within)
                if node.name.startswith("__"):
                    self.assertTrue(node in within and SPECIAL.match(node.name), node.name)

    def test_l5_l18_l26_methods_properties_and_attributes(self):
        methods, properties, attributes = set(), set(), set()
        for _, _, tree in files():
            for node in functions_of(tree):
                if node.args.args and node.args.args[0].arg == "self" and not node.name.startswith("__"):
                    (properties if node.decorator_list else methods).add(node.name)
                elif any(ast.unparse(decorator) == "staticmethod" for decorator in node.decorator_list):
                    methods.add(node.name)
            for node in ast.walk(tree):
                if isinstance(node, ast.Attribute) and isinstance(node.ctx, ast.Store):
                    attributes.add(node.attr)
        self.assertTrue(methods and properties and attributes)
        self.assertFalse(methods & properties | methods & attributes | properties & attributes)
        builtin = {name for kind in (int, str, list, tuple, dict, set, bytes, range) for name in dir(kind)}
        self.assertFalse((methods | properties) & builtin)
        self.assertLessEqual(attributes & builtin, {"count", "index", "title", "find", "get", "join", "copy", "add"})

    @each_file
    def test_l5_not_implemented(self, name, text, tree):
        above = parents(tree)
        for node in ast.walk(tree):
            if isinstance(node, ast.Name) and node.id == "NotImplemented":
                self.assertIsInstance(above[node], ast.Return)

    @each_file
    def test_l7_stars_in_calls(self, name, text, tree):
        for node in ast.walk(tree):
            if isinstance(node, ast.Call):
                for star in [part for part in node.args if isinstance(part, ast.Starred)]:
                    self.assertIsInstance(star.value, ast.Name)
                self.assertTrue(all(keyword.arg for keyword in node.keywords))

    @each_file
    def test_l8_kinds(self, name, text, tree):
        above = parents(tree)
        for node in ast.walk(tree):
            if called(node) == "type":
                self.assertRegex(ast.unparse(above[node]), r"^type\(\w+\)\.__name__$")

    @each_file
    def test_l6_l7_statements_and_expressions(self, name, text, tree):
        for node in ast.walk(tree):
            self.assertNotIsInstance(node, REFUSED)
            if isinstance(node, ast.Constant):
                self.assertNotIsInstance(node.value, (float, complex))

    @each_file
    def test_l8_l25_what_is_called(self, name, text, tree):
        trees = [tree for _, _, tree in files()]
        own = {node.name for tree in trees for node in functions_of(tree)}
        bound = set(bound_names(tree))
        for node in ast.walk(tree):
            if isinstance(node, ast.Name) and isinstance(node.ctx, ast.Load):
                self.assertIn(node.id, bound | BUILTINS)
            if isinstance(node, ast.Call) and isinstance(node.func, ast.Attribute):
                self.assertIn(node.func.attr, METHODS | own)

    @each_file
    def test_l8_l12_l17_names(self, name, text, tree):
        builtin = set(dir(__builtins__)) if not isinstance(__builtins__, dict) else set(__builtins__)
        for name in bound_names(tree):
            self.assertNotIn(name, UNUSED_NAMES | builtin)
            self.assertTrue(name == "_" or re.match("_?[A-Za-z][A-Za-z0-9_]*$", name) or SPECIAL.match(name), name)
        for node in ast.walk(tree):
            if isinstance(node, ast.Attribute):
                self.assertNotIn(node.attr, {"mro", "elements", "open", "input", "law", "format", "args"})
        self.assertNotRegex(text, rf"\b({UNUSED_WORDS})\b")
        self.assertNotRegex(text, "dataclass|overload|contextmanager")

    @each_file
    def test_l15_names_of_imports_and_classes_are_not_bound_again(self, name, text, tree):
        fixed = {alias.name for node in tree.body if isinstance(node, ast.ImportFrom) for alias in node.names}
        fixed |= {node.name for node in tree.body if isinstance(node, ast.ClassDef)}
        for node in ast.walk(tree):
            if isinstance(node, ast.arg):
                self.assertNotIn(node.arg, fixed)
            elif isinstance(node, ast.Name) and isinstance(node.ctx, ast.Store):
                self.assertNotIn(node.id, fixed)

    @each_file
    def test_l19_what_is_caught(self, name, text, tree):
        own = {node.name for _, _, other in files() for node in ast.walk(other) if isinstance(node, ast.ClassDef)}
        for node in ast.walk(tree):
            if isinstance(node, ast.ExceptHandler):
                self.assertIn(ast.unparse(node.type), own | {"KeyError", "ZeroDivisionError"})

    @each_file
    def test_l20_is(self, name, text, tree):
        for node in ast.walk(tree):
            if isinstance(node, ast.Compare) and any(isinstance(op, (ast.Is, ast.IsNot)) for op in node.ops):
                self.assertIn(ast.unparse(node.comparators[0]), {"None", "True", "False"})

    @each_file
    def test_l22_keywords_of_builtins(self, name, text, tree):
        taken = {"sorted": {"key", "reverse"}, "min": {"key", "default"}, "max": {"key", "default"}, "sum": {"start"}}
        taken |= {"enumerate": {"start"}, "zip": {"strict"}}
        for node in ast.walk(tree):
            if called(node) in BUILTINS:
                self.assertLessEqual({keyword.arg for keyword in node.keywords}, taken.get(called(node), set()))
            elif isinstance(node, ast.Call) and isinstance(node.func, ast.Attribute) and node.func.attr in METHODS:
                self.assertEqual(node.keywords, [])

    @each_file
    def test_l23_iterated_at_once(self, name, text, tree):
        above = parents(tree)
        takers = {"list", "tuple", "dict", "sorted", "sum", "any", "all", "enumerate", "zip", "min", "max"}
        for node in ast.walk(tree):
            view = isinstance(node, ast.Call) and isinstance(node.func, ast.Attribute)
            view = view and node.func.attr in {"items", "keys", "values"}
            if view or called(node) in {"range", "zip", "enumerate", "reversed"}:
                place = above[node]
                looped = isinstance(place, (ast.For, ast.comprehension)) and place.iter is node
                self.assertTrue(looped or called(place) in takers and place.args[0] is node, ast.unparse(node))

    @each_file
    def test_l24_sets_are_not_kept(self, name, text, tree):
        above = parents(tree)
        for node in ast.walk(tree):
            if isinstance(node, (ast.Set, ast.SetComp)) or called(node) == "set":
                place = above[node]
                kept = isinstance(place, ast.Assign) and isinstance(place.targets[0], ast.Name)
                self.assertTrue(kept or isinstance(place, ast.Compare) or called(place) in {"sorted", "len"})

    @each_file
    def test_l25_nothing_is_sorted_in_place(self, name, text, tree):
        for node in ast.walk(tree):
            self.assertFalse(isinstance(node, ast.Attribute) and node.attr == "sort")

    @each_file
    def test_l27_strings(self, name, text, tree):
        docstrings = {
            node.body[0].value for node in ast.walk(tree)
            if isinstance(node, (ast.Module, ast.FunctionDef, ast.ClassDef)) and isinstance(node.body[0], ast.Expr)
        }
        for node in ast.walk(tree):
            if isinstance(node, ast.Constant) and isinstance(node.value, str) and node not in docstrings:
                self.assertNotIn("%", node.value)
                self.assertFalse(node.value.startswith("__") and node.value.endswith("__"))
                self.assertFalse(node.value.endswith(("._", ".__")))
            if isinstance(node, ast.BinOp) and isinstance(node.op, ast.Pow):
                self.assertIn(ast.unparse(node.right), {str(exponent) for exponent in range(65)})

    @each_file
    def test_l27_no_warnings(self, name, text, tree):
        with warnings.catch_warnings():
            warnings.simplefilter("error")
            compile(text, name, "exec")


if __name__ == "__main__":
    unittest.main()
