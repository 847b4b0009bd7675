"""The package keeps to the small part of Python that it is written in."""

import ast
import builtins
import os
import re
import unittest

import monthsclosed

FOLDER = os.path.dirname(os.path.abspath(monthsclosed.__file__))
STATEMENTS = (
    ast.Assign, ast.AugAssign, ast.If, ast.While, ast.For, ast.Return, ast.Break, ast.Continue, ast.Pass, ast.Raise,
    ast.Try, ast.Expr, ast.FunctionDef, ast.ClassDef, ast.ImportFrom,
)
OUT = (
    ast.Set, ast.SetComp, ast.DictComp, ast.GeneratorExp, ast.NamedExpr, ast.Starred, ast.Div, ast.MatMult, ast.Yield,
    ast.YieldFrom, ast.Await,
)
OWN_NAMES = set(
    "len range enumerate zip min max sum abs sorted reversed int str bool list tuple dict set frozenset isinstance "
    "ord repr any all divmod".split()
)
METHODS = set(
    "append clear copy count endswith extend find get index insert isalnum isalpha isdigit islower isspace isupper "
    "items join keys ljust lower lstrip partition pop remove replace reverse rfind rjust rpartition rsplit rstrip "
    "setdefault split splitlines startswith strip update upper values zfill bit_length".split()
)
WORDS = re.compile(
    r"\b(type|typing|typing_extensions|enum|Enum|IntEnum|StrEnum|Flag|IntFlag|Generic|Protocol|ABC|ABCMeta|namedtuple"
    r"|NamedTuple|TypedDict|TYPE_CHECKING|abstractmethod)\b|dataclass|overload|contextmanager"
)


WALKED = ("zip", "enumerate", "reversed", "range", "items", "keys", "values")
WALKERS = ("list", "tuple", "dict", "sorted", "sum", "any", "all", "enumerate", "zip", "min", "max")
KEYWORDS = {
    "sorted": ("key", "reverse"), "min": ("key", "default"), "max": ("key", "default"), "sum": ("start",),
    "enumerate": ("start",), "zip": ("strict",),
}
VALUES_LIKE_PYTHONS = set("count index title find get join lower upper split strip copy add".split())


def sources():
    found = {}
    for name in sorted(os.listdir(FOLDER)):
        if name != "__pycache__":
            with open(os.path.join(FOLDER, name), encoding="utf-8", newline="") as file:
                found[name] = file.read()
    return found


def own_methods():
    return {
        each.name for text in sources().values() for node in ast.walk(ast.parse(text))
        if isinstance(node, ast.ClassDef) for each in node.body if isinstance(each, ast.FunctionDef)
    }


def own_values():
    return {
        node.attr for text in sources().values() for node in ast.walk(ast.parse(text))
        if isinstance(node, ast.Attribute) and isinstance(node.ctx, ast.Store)
    }


def called_name(node):
    return getattr(node.func, "id", None) or getattr(node.func, "attr", None)


def each_tree():
    for name, text in sources().items():
        yield name, ast.parse(text)


def each_node():
    """Each node, and where it stands, for the words of a failure."""
    for name, tree in each_tree():
        for node in ast.walk(tree):
            yield node, f"{name}, line {getattr(node, 'lineno', 0)}"


class Language(unittest.TestCase):
    def test_files_and_signs(self):
        for name, text in sources().items():
            self.assertRegex(name, r"^(__init__|[a-z][a-z0-9_]*)\.py$")
            self.assertRegex(text, r"\A[\n -~]*\Z", name)
            self.assertIsNone(WORDS.search(text), name)
            rows = text.split("\n")
            self.assertLessEqual(len(rows), 400, name)
            self.assertLessEqual(max(len(row) for row in rows), 120, name)

    def test_statements(self):
        for node, where in each_node():
            if isinstance(node, ast.stmt):
                self.assertIsInstance(node, STATEMENTS, where)
            self.assertNotIsInstance(node, OUT, where)
            if isinstance(node, ast.Assign):
                self.assertEqual(len(node.targets), 1, where)
                self.assertNotIsInstance(node.targets[0], ast.Tuple, where)
                if isinstance(node.targets[0], ast.Attribute):
                    self.assertIsInstance(node.targets[0].value, ast.Name, where)
            if isinstance(node, (ast.For, ast.While)):
                self.assertEqual(node.orelse, [], where)
            if isinstance(node, ast.Constant):
                self.assertIsInstance(node.value, (int, str, type(None)), where)
            if isinstance(node, ast.Compare) and isinstance(node.ops[0], (ast.Is, ast.IsNot)):
                self.assertIsInstance(node.comparators[0], ast.Constant, where)
                self.assertIsInstance(node.comparators[0].value, (bool, type(None)), where)

    def test_functions(self):
        for node, where in each_node():
            if isinstance(node, (ast.FunctionDef, ast.ClassDef)):
                self.assertEqual(node.decorator_list, [], where)
            if isinstance(node, ast.FunctionDef):
                self.assertLessEqual(node.end_lineno - node.lineno + 1, 40, where)
                self.assertIsNone(node.args.vararg or node.args.kwarg or node.returns, where)
                self.assertEqual(node.args.kwonlyargs, [], where)

    def test_names(self):
        for node, where in each_node():
            if isinstance(node, ast.Name) and hasattr(builtins, node.id):
                self.assertIn(node.id, OWN_NAMES, where)
                self.assertIsInstance(node.ctx, ast.Load, where)
                continue
            for name in (getattr(node, "id", None), getattr(node, "arg", None), getattr(node, "name", None)):
                if name is not None and name != "__init__":
                    self.assertRegex(name, r"^[A-Za-z][A-Za-z0-9_]*$", where)
                    self.assertFalse(hasattr(builtins, name), where)

    def test_methods(self):
        allowed = METHODS | own_methods()
        for node, where in each_node():
            if isinstance(node, ast.Call) and isinstance(node.func, ast.Attribute):
                self.assertIn(node.func.attr, allowed, where)

    def test_methods_and_values_of_own_classes(self):
        pythons = {name for kind in (str, int, list, dict, set, bytes, tuple) for name in dir(kind)}
        self.assertEqual(own_methods() & own_values(), set())
        self.assertEqual((own_methods() - METHODS - {"__init__", "add", "discard"}) & pythons, set())
        self.assertEqual((own_values() - VALUES_LIKE_PYTHONS) & pythons, set())

    def test_keywords(self):
        for node, where in each_node():
            if isinstance(node, ast.Call):
                for keyword in node.keywords:
                    self.assertIn(keyword.arg, KEYWORDS.get(called_name(node), ()), where)

    def test_walked_at_once(self):
        walked = set()
        for node, where in each_node():
            if isinstance(node, (ast.For, ast.comprehension)):
                walked.add(ast.dump(node.iter, include_attributes=True))
            if isinstance(node, ast.Call) and called_name(node) in WALKERS:
                walked.update(ast.dump(each, include_attributes=True) for each in node.args)
        for node, where in each_node():
            if isinstance(node, ast.Call) and called_name(node) in WALKED:
                self.assertIn(ast.dump(node, include_attributes=True), walked, where)

    def test_tables_of_the_top_hold_no_tables(self):
        for name, tree in each_tree():
            for node in tree.body:
                inner = list(ast.walk(node.value))[1:] if isinstance(node, ast.Assign) else []
                self.assertFalse(any(isinstance(each, (ast.List, ast.Dict)) for each in inner), name)

    def test_names_are_drawn_from_where_they_are_defined(self):
        bound = {}
        for name, tree in each_tree():
            names = {target.id for node in tree.body if isinstance(node, ast.Assign) for target in node.targets}
            names |= {node.name for node in tree.body if isinstance(node, (ast.FunctionDef, ast.ClassDef))}
            bound["monthsclosed." + name[:-3]] = names
        for node, where in each_node():
            if isinstance(node, ast.ImportFrom):
                self.assertEqual(node.level, 0, where)
                for each in node.names:
                    self.assertIn(each.name, bound[node.module], where)
                    self.assertIsNone(each.asname, where)

    def test_imports(self):
        drawn = {}
        for name, tree in each_tree():
            others = {node.module for node in ast.walk(tree) if isinstance(node, ast.ImportFrom)}
            drawn["monthsclosed." + name[:-3]] = others
        while drawn:
            free = {module for module, others in drawn.items() if not others}
            self.assertNotEqual(free, set(), "files draw from one another, or from outside the package")
            drawn = {module: others - free for module, others in drawn.items() if module not in free}

    def test_names_of_the_top_are_bound_once(self):
        for name, tree in each_tree():
            bound = [target.id for node in tree.body if isinstance(node, ast.Assign) for target in node.targets]
            bound += [node.name for node in tree.body if isinstance(node, (ast.FunctionDef, ast.ClassDef))]
            bound += [each.name for node in tree.body if isinstance(node, ast.ImportFrom) for each in node.names]
            self.assertEqual(sorted(bound), sorted(set(bound)), name)
            for outer in ast.walk(tree):
                for node in ast.walk(outer) if isinstance(outer, ast.FunctionDef) else ():
                    if isinstance(node, ast.arg):
                        self.assertNotIn(node.arg, bound, name)
                    if isinstance(node, ast.Name) and isinstance(node.ctx, ast.Store):
                        self.assertNotIn(node.id, bound, name)


if __name__ == "__main__":
    unittest.main()
