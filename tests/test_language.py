"""The package keeps to the small part of Python that it is written in (the rules that can be seen by a plain look)."""

import ast
import builtins
import pathlib
import re
import unittest

PACKAGE = pathlib.Path(__file__).resolve().parent.parent / "boughworth"

STATEMENTS = (
    ast.Assign, ast.AugAssign, ast.If, ast.While, ast.For, ast.Return, ast.Break, ast.Continue, ast.Pass, ast.Raise,
    ast.Try, ast.Expr, ast.FunctionDef, ast.ClassDef, ast.ImportFrom,
)
NO_EXPRESSIONS = (
    ast.SetComp, ast.DictComp, ast.GeneratorExp, ast.NamedExpr, ast.Starred, ast.Yield, ast.YieldFrom, ast.Await,
    ast.Div, ast.MatMult,
)
PLAIN_VALUES = (ast.Constant, ast.Tuple, ast.List, ast.Dict, ast.Load)
OWN_NAMES = set((
    "len range enumerate zip min max sum abs sorted reversed int str bool list tuple dict set frozenset isinstance ord "
    "repr any all divmod Exception ValueError TypeError KeyError IndexError LookupError ZeroDivisionError "
    "ArithmeticError OverflowError RuntimeError NotImplementedError AttributeError StopIteration"
).split())
METHODS = set((
    "append clear copy count endswith extend find get index insert isalnum isalpha isdigit islower isspace isupper "
    "items join keys ljust lower lstrip partition pop remove replace reverse rfind rjust rpartition rsplit rstrip "
    "setdefault split splitlines startswith strip update upper values zfill bit_length"
).split())
CHANGES = ("append", "clear", "extend", "insert", "pop", "remove", "reverse", "setdefault", "update")
NO_NAMES = set((
    "register mro elements open input version_info with_traceback add_note attrgetter breakpoint builtins compile "
    "copyright credits delattr dir eval exec exit gc getattr globals hasattr help id importlib license locals "
    "methodcaller os quit setattr super type vars sys"
).split())
NO_WORDS = re.compile(
    r"\b(type|typing|typing_extensions|enum|Enum|IntEnum|StrEnum|Flag|IntFlag|Generic|Protocol|ABC|ABCMeta|namedtuple|"
    r"NamedTuple|TypedDict|TYPE_CHECKING|abstractmethod)\b|dataclass|overload|contextmanager"
)
SPECIAL_METHODS = ("__init__", "__eq__", "__repr__", "__str__", "__len__")


def sources():
    return [(path.name, path.read_text(encoding="utf-8")) for path in sorted(PACKAGE.glob("*.py"))]


def nodes():
    for name, text in sources():
        for node in ast.walk(ast.parse(text)):
            yield f"{name}:{getattr(node, 'lineno', 0)}", node


def bound_names(node):
    """The names that a node binds, defs and parameters among them."""
    if isinstance(node, (ast.FunctionDef, ast.ClassDef)):
        return [node.name]
    if isinstance(node, ast.arg):
        return [node.arg]
    if isinstance(node, ast.Name) and isinstance(node.ctx, ast.Store):
        return [node.id]
    if isinstance(node, ast.ExceptHandler):
        return [node.name] if node.name else []
    return []


def names_at_top(text):
    found = []
    for node in ast.parse(text).body:
        found += bound_names(node.targets[0] if isinstance(node, ast.Assign) else node)
    return found


def called_name(node):
    return node.func.id if isinstance(node, ast.Call) and isinstance(node.func, ast.Name) else None


def changed_name(node):
    """The name of what a call or an assignment changes, None where it changes nothing that has a name."""
    changed = None
    if isinstance(node, ast.Call) and isinstance(node.func, ast.Attribute) and node.func.attr in CHANGES:
        changed = node.func.value
    if isinstance(node, ast.Subscript) and isinstance(node.ctx, ast.Store):
        changed = node.value
    return changed.id if isinstance(changed, ast.Name) else None


def own_methods():
    return set(inner.name for where, node in nodes() if isinstance(node, ast.ClassDef) for inner in node.body
               if isinstance(inner, ast.FunctionDef))


class LanguageTest(unittest.TestCase):

    def test_files(self):
        self.assertTrue((PACKAGE / "__init__.py").is_file())
        for path in PACKAGE.iterdir():
            if path.name != "__pycache__":
                self.assertRegex(path.name, r"^(__init__|[a-z][a-z0-9_]*)\.py$")

    def test_lines_and_signs(self):
        for name, text in sources():
            rows = text.split("\n")
            self.assertLessEqual(len(rows), 400, name)
            for number, row in enumerate(rows, start=1):
                self.assertRegex(row, r"^[ -~]{0,120}$", f"{name}:{number}")
                self.assertIsNone(NO_WORDS.search(row), f"{name}:{number}")

    def test_defs(self):
        for where, node in nodes():
            if isinstance(node, ast.FunctionDef):
                self.assertLessEqual(node.end_lineno - node.lineno + 1, 40, where)
                self.assertEqual(node.decorator_list, [], where)
                args = node.args
                self.assertFalse(args.vararg or args.kwarg or args.kwonlyargs or args.posonlyargs, where)

    def test_classes(self):
        for where, node in nodes():
            if isinstance(node, ast.ClassDef):
                self.assertEqual(node.decorator_list + node.keywords, [], where)
                self.assertLessEqual(len(node.bases), 1, where)
                for inner in node.body:
                    self.assertIsInstance(inner, (ast.FunctionDef, ast.Pass), where)

    def test_tops_of_files(self):
        kinds = (ast.ImportFrom, ast.FunctionDef, ast.ClassDef, ast.Assign)
        for name, text in sources():
            body = ast.parse(text).body
            self.assertIsInstance(ast.parse(text).body[0], ast.Expr, name)
            for node in body[1:]:
                self.assertIsInstance(node, kinds, name)
                if isinstance(node, ast.ImportFrom):
                    self.assertRegex(node.module or "", r"^boughworth\.[a-z]", name)
                    self.assertEqual(node.level, 0, name)
                    self.assertTrue(all(alias.name != "*" for alias in node.names), name)

    def test_values_at_the_tops_of_files(self):
        for name, text in sources():
            bound = []
            for node in ast.parse(text).body:
                if isinstance(node, ast.Assign):
                    bound.append(node.targets[0].id)
                    for inner in ast.walk(node.value):
                        self.assertIsInstance(inner, PLAIN_VALUES, f"{name}:{node.lineno}")
                        if inner is not node.value:
                            self.assertNotIsInstance(inner, (ast.List, ast.Dict), f"{name}:{node.lineno}")
            self.assertEqual(len(bound), len(set(bound)), name)

    def test_imports_are_from_the_very_file_and_never_round(self):
        drawn = {}
        for name, text in sources():
            imports = [node for node in ast.parse(text).body if isinstance(node, ast.ImportFrom)]
            drawn[name] = [node.module.removeprefix("boughworth.") + ".py" for node in imports]
            for node, other in zip(imports, drawn[name]):
                own_names = names_at_top((PACKAGE / other).read_text(encoding="utf-8"))
                for alias in node.names:
                    self.assertIn(alias.name, own_names, name)
        while drawn:
            last = [name for name in drawn if not any(other in drawn for other in drawn[name])]
            self.assertTrue(last, f"these draw from one another: {sorted(drawn)}")
            drawn = {name: others for name, others in drawn.items() if name not in last}

    def test_no_local_is_called_like_an_import_a_class_or_a_def(self):
        for name, text in sources():
            tree = ast.parse(text)
            taken = names_at_top(text)
            taken += [alias.name for node in tree.body if isinstance(node, ast.ImportFrom) for alias in node.names]
            for top in tree.body:
                if isinstance(top, (ast.FunctionDef, ast.ClassDef)):
                    for node in ast.walk(top):
                        if isinstance(node, (ast.arg, ast.Name)):
                            for local in bound_names(node):
                                self.assertNotIn(local, taken, f"{name}:{node.lineno}")

    def test_what_is_walked_at_once(self):
        for where, node in nodes():
            if isinstance(node, (ast.Assign, ast.Return)) and isinstance(node.value, ast.Call):
                called = node.value.func
                word = called.id if isinstance(called, ast.Name) else getattr(called, "attr", "")
                self.assertNotIn(word, ("zip", "enumerate", "reversed", "range", "items", "keys", "values"), where)

    def test_nothing_that_a_loop_walks_is_changed_in_it(self):
        for where, node in nodes():
            if isinstance(node, ast.For):
                walked = set(inner.id for inner in ast.walk(node.iter) if isinstance(inner, ast.Name))
                for inner in [one for row in node.body for one in ast.walk(row)]:
                    self.assertNotIn(changed_name(inner), walked, where)

    def test_sets_are_only_compared_counted_or_sorted(self):
        for name, text in sources():
            for node in ast.walk(ast.parse(text)):
                for inner in ast.iter_child_nodes(node):
                    if isinstance(inner, ast.Set) or called_name(inner) in ("set", "frozenset"):
                        fits = isinstance(node, ast.Compare) or called_name(node) in ("sorted", "len")
                        self.assertTrue(fits, f"{name}:{inner.lineno}")

    def test_statements(self):
        for where, node in nodes():
            if isinstance(node, ast.stmt):
                self.assertIsInstance(node, STATEMENTS, where)
            if isinstance(node, (ast.For, ast.While)):
                self.assertEqual(node.orelse, [], where)
            if isinstance(node, ast.Assign):
                self.assertEqual(len(node.targets), 1, where)
            if isinstance(node, ast.Try):
                self.assertEqual(node.finalbody, [], where)
            if isinstance(node, ast.ExceptHandler):
                self.assertIsNotNone(node.type, where)

    def test_expressions(self):
        for where, node in nodes():
            self.assertNotIsInstance(node, NO_EXPRESSIONS, where)
            if isinstance(node, ast.Constant):
                self.assertNotIsInstance(node.value, (float, complex, bytes), where)
                self.assertFalse(isinstance(node.value, str) and "%" in node.value, where)
            if isinstance(node, ast.ListComp):
                self.assertEqual(len(node.generators), 1, where)
                self.assertLessEqual(len(node.generators[0].ifs), 1, where)
            if isinstance(node, ast.Compare) and any(isinstance(op, (ast.Is, ast.IsNot)) for op in node.ops):
                self.assertIsInstance(node.comparators[-1], ast.Constant, where)

    def test_names(self):
        for where, node in nodes():
            for name in bound_names(node):
                if name not in SPECIAL_METHODS:
                    self.assertRegex(name, r"^[A-Za-z][A-Za-z0-9_]*$", where)
                    self.assertNotIn(name, NO_NAMES, where)
                if isinstance(node, (ast.arg, ast.Name)):
                    self.assertFalse(hasattr(builtins, name), where)
            if isinstance(node, ast.Name) and hasattr(builtins, node.id):
                self.assertIn(node.id, OWN_NAMES, where)

    def test_methods(self):
        known = METHODS | own_methods() | {"__init__"}
        for where, node in nodes():
            if isinstance(node, ast.Call) and isinstance(node.func, ast.Attribute):
                self.assertIn(node.func.attr, known, where)

    def test_no_name_is_a_method_and_a_value(self):
        taken = own_methods()
        python_names = set(dir(str) + dir(int) + dir(list) + dir(dict) + dir(set) + dir(bytes) + dir(tuple))
        for name in taken - {"__init__"}:
            self.assertNotIn(name, python_names)
        for name, text in sources():
            tree = ast.parse(text)
            called = [node.func for node in ast.walk(tree) if isinstance(node, ast.Call)]
            for node in ast.walk(tree):
                if isinstance(node, ast.Attribute) and node not in called:
                    self.assertNotIn(node.attr, taken, f"{name}:{node.lineno}")
                    self.assertNotIn(node.attr, python_names, f"{name}:{node.lineno}")

    def test_defaults_and_decorators(self):
        for where, node in nodes():
            if isinstance(node, (ast.FunctionDef, ast.ClassDef)):
                self.assertEqual(node.decorator_list, [], where)
            if isinstance(node, ast.arguments):
                self.assertEqual((node.vararg, node.kwarg, node.kwonlyargs), (None, None, []), where)


if __name__ == "__main__":
    unittest.main()
