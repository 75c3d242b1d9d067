"""The package keeps to the small part of Python that it is written in (the rules that can be seen by a plain look)."""

import ast
import builtins
import pathlib
import re
import unittest

PACKAGE = pathlib.Path(__file__).resolve().parent.parent / "boughworth"

STATEMENTS = (
    ast.Assign, ast.AugAssign, ast.If, ast.While, ast.For, ast.Return, ast.Break, ast.Continue, ast.Pass, ast.Raise,
    ast.Try, ast.Expr, ast.FunctionDef, ast.ClassDef, ast.ImportFrom,
)
NO_EXPRESSIONS = (
    ast.SetComp, ast.DictComp, ast.GeneratorExp, ast.NamedExpr, ast.Starred, ast.Yield, ast.YieldFrom, ast.Await,
    ast.Div, ast.MatMult,
)
PLAIN_VALUES = (ast.Constant, ast.Tuple, ast.List, ast.Dict, ast.Load)
OWN_NAMES = set((
    "len range enumerate zip min max sum abs sorted reversed int str bool list tuple dict set frozenset isinstance ord "
    "repr any all divmod Exception ValueError TypeError KeyError IndexError LookupError ZeroDivisionError "
    "ArithmeticError OverflowError RuntimeError NotImplementedError AttributeError StopIteration"
).split())
METHODS = set((
    "append clear copy count endswith extend find get index insert isalnum isalpha isdigit islower isspace isupper "
    "items join keys ljust lower lstrip partition pop remove replace reverse rfind rjust rpartition rsplit rstrip "
    "setdefault split splitlines startswith strip update upper values zfill bit_length"
).split())
CHANGES = ("append", "clear", "extend", "insert", "pop", "remove", "reverse", "setdefault", "update")
WALKED_NAMES = ("zip", "enumerate", "reversed", "range")
WALKED_METHODS = ("items", "keys", "values")
WALK_AS_FIRST_IN = ("list", "tuple", "dict", "sorted", "sum", "any", "all", "enumerate", "zip")
WALKS_KEPT = (
    "for number in sorted(set(WALK)):\n        pass", "walk = WALK", "return WALK", "walk = [WALK]", "walk = (WALK, 1)",
    "walk = {1: WALK}", "walk = set(WALK)", "walk = frozenset(WALK)", "many = len(list(d)) + len(WALK)", "told(WALK)",
    "walk = 1 in WALK", "walk = WALK == a", "walk = WALK[0]", "least = min(WALK, a)", "most = max(0, WALK)",
    "least = min(WALK, default=0)", "walk = list(zip(a, WALK))", "a.extend(WALK)", "text = a.join(WALK)",
    "walk = sum(a, WALK)", "walk = WALK if n else a", "walk = [one for one in a if WALK]", "walk = lambda: WALK",
    "walk = WALK or a", "while WALK:\n        pass", "if not WALK:\n        pass", "WALK", "walk = a.sorted(WALK)",
    "for one in [WALK]:\n        pass", "for one in (WALK if n else a):\n        pass", "walk = [WALK for one in a]",
    "for one in list(reversed(WALK)):\n        pass", "walk = str(WALK)", "a[0] = WALK", "walk = sorted(a, key=WALK)",
)
WALKED_AT_ONCE = (
    "for one in WALK:\n    pass", "walk = [one for one in WALK]", "walk = [one for one in WALK if one]",
    "walk = list(WALK)", "walk = tuple(WALK)", "walk = dict(WALK)", "walk = sorted(WALK, reverse=True)",
    "many = sum(WALK)", "many = sum(WALK, 1)", "fits = any(WALK)", "fits = all(WALK)", "walk = list(enumerate(WALK))",
    "walk = list(zip(WALK, a))", "least = min(WALK)", "most = max(WALK)", "text = ', '.join(WALK)",
    "for number in sorted(set(list(WALK))):\n    pass", "for one in enumerate(WALK, start=1):\n    pass",
)
OPERATORS_OF_SETS = (ast.Sub, ast.BitAnd, ast.BitOr, ast.BitXor)
SETS_KEPT = (
    "kept = SET", "kept = {1, 2}", "kept = [SET]", "told(SET)", "for one in SET:\n    pass", "kept = list(SET)",
    "kept = [one for one in SET]", "kept = sorted(SET, reverse=True)", "fits = SET == b", "fits = SET < set(b)",
    "fits = SET in b", "kept = SET | set(b)", "many = sum(SET)", "least = min(SET)", "fits = SET or b", "SET.pop()",
    "kept = sorted(SET + set(b))", "kept = sorted(SET | b)", "if SET:\n    pass", "fits = SET == set(b) == c",
)
SETS_USED_AT_ONCE = (
    "fits = one in SET", "fits = one not in SET", "fits = SET == set(b)", "fits = set(b) != SET", "many = len(SET)",
    "kept = sorted(SET)", "kept = sorted(SET | set(b))", "many = len(SET & set(b) - set(c))", "fits = one in {1, 2}",
    "fits = SET ^ set(b) == set(c)",
)
KEYWORDS = {
    "sorted": ("key", "reverse"), "min": ("key", "default"), "max": ("key", "default"), "sum": ("start",),
    "enumerate": ("start",), "zip": ("strict",),
}
KEYS = ("len", "int", "str", "abs", "sum", "min", "max", "tuple")
NO_NAMES = set((
    "register mro elements open input version_info with_traceback add_note attrgetter breakpoint builtins compile "
    "copyright credits delattr dir eval exec exit gc getattr globals hasattr help id importlib license locals "
    "methodcaller os quit setattr super type vars sys"
).split())
NO_WORDS = re.compile(
    r"\b(type|typing|typing_extensions|enum|Enum|IntEnum|StrEnum|Flag|IntFlag|Generic|Protocol|ABC|ABCMeta|namedtuple|"
    r"NamedTuple|TypedDict|TYPE_CHECKING|abstractmethod)\b|dataclass|overload|contextmanager"
)
SPECIAL_METHODS = ("__init__", "__eq__", "__repr__", "__str__", "__len__")


def sources():
    return [(path.name, path.read_text(encoding="utf-8")) for path in sorted(PACKAGE.glob("*.py"))]


def nodes():
    for name, text in sources():
        for node in ast.walk(ast.parse(text)):
            yield f"{name}:{getattr(node, 'lineno', 0)}", node


def bound_names(node):
    """The names that a node binds, defs and parameters among them."""
    if isinstance(node, (ast.FunctionDef, ast.ClassDef)):
        return [node.name]
    if isinstance(node, ast.arg):
        return [node.arg]
    if isinstance(node, ast.Name) and isinstance(node.ctx, ast.Store):
        return [node.id]
    if isinstance(node, ast.ExceptHandler):
        return [node.name] if node.name else []
    return []


def names_at_top(text):
    found = []
    for node in ast.parse(text).body:
        found += bound_names(node.targets[0] if isinstance(node, ast.Assign) else node)
    return found


def called_name(node):
    return node.func.id if isinstance(node, ast.Call) and isinstance(node.func, ast.Name) else None


def is_walk(node):
    """Whether a node is what is to be walked on the spot, or the name or method that would make it."""
    if isinstance(node, ast.Call):
        return is_walk(node.func)
    if isinstance(node, ast.Attribute):
        return node.attr in WALKED_METHODS
    return isinstance(node, ast.Name) and node.id in WALKED_NAMES


def is_walked_in(outer, walk):
    """Whether the node that a walk stands straight within walks it on the spot."""
    if isinstance(outer, (ast.For, ast.comprehension)):
        return outer.iter is walk
    if not isinstance(outer, ast.Call) or outer.args[:1] != [walk]:
        return False
    if isinstance(outer.func, ast.Attribute):
        text = outer.func.value
        return outer.func.attr == "join" and isinstance(text, ast.Constant) and isinstance(text.value, str)
    if called_name(outer) in ("min", "max"):
        return len(outer.args) == 1 and outer.keywords == []
    return called_name(outer) in WALK_AS_FIRST_IN


def rows_of_kept_walks(text):
    """The rows of a file where a walk stands elsewhere than where it is walked on the spot."""
    found = []
    for outer in ast.walk(ast.parse(text)):
        for inner in ast.iter_child_nodes(outer):
            is_made = isinstance(outer, ast.Call) and outer.func is inner
            if is_walk(inner) and not is_made and not (isinstance(inner, ast.Call) and is_walked_in(outer, inner)):
                found.append(inner.lineno)
    return found


def is_set(node):
    """Whether a node makes a set, by itself or out of several sets."""
    if isinstance(node, ast.BinOp):
        return is_set(node.left) or is_set(node.right)
    return isinstance(node, ast.Set) or called_name(node) in ("set", "frozenset")


def is_set_used_in(outer, made):
    """Whether the node that a set stands straight within asks, compares, counts or sorts it on the spot."""
    if isinstance(outer, ast.BinOp):
        return is_set(outer.left) and is_set(outer.right) and isinstance(outer.op, OPERATORS_OF_SETS)
    if isinstance(outer, ast.Compare) and len(outer.ops) == 1:
        if isinstance(outer.ops[0], (ast.In, ast.NotIn)):
            return outer.comparators == [made] and not is_set(outer.left)
        both = is_set(outer.left) and is_set(outer.comparators[0])
        return both and isinstance(outer.ops[0], (ast.Eq, ast.NotEq))
    return called_name(outer) in ("sorted", "len") and outer.args == [made] and outer.keywords == []


def rows_of_kept_sets(text):
    found = []
    for outer in ast.walk(ast.parse(text)):
        for inner in ast.iter_child_nodes(outer):
            if is_set(inner) and not is_set_used_in(outer, inner):
                found.append(inner.lineno)
    return found


def root_name(node):
    """The name that an index or a value of an object is taken from, however deep."""
    while isinstance(node, (ast.Subscript, ast.Attribute)):
        node = node.value
    return node.id if isinstance(node, ast.Name) else None


def changed_name(node):
    """The name of what a call or an assignment changes, None where it changes nothing that has a name."""
    if isinstance(node, ast.Call) and isinstance(node.func, ast.Attribute) and node.func.attr in CHANGES:
        return root_name(node.func.value)
    if isinstance(node, (ast.Subscript, ast.Attribute)) and isinstance(node.ctx, ast.Store):
        return root_name(node.value)
    return None


def names_walked(walk):
    """The names of what is walked itself; what another call makes of them is walked in their place."""
    if isinstance(walk, ast.Call) and isinstance(walk.func, ast.Attribute) and walk.func.attr in WALKED_METHODS:
        return names_walked(walk.func.value)
    if called_name(walk) in WALKED_NAMES:
        return [name for one in walk.args for name in names_walked(one)]
    return [root_name(walk)] if root_name(walk) else []


def rows_of_changed_walks(text):
    """The rows of a file that change, within a loop or a comprehension, what it walks."""
    found = []
    for node in ast.walk(ast.parse(text)):
        walks = [node.iter] if isinstance(node, ast.For) else []
        within = node.body if isinstance(node, ast.For) else []
        if isinstance(node, ast.ListComp):
            walks = [one.iter for one in node.generators]
            within = [node.elt] + [test for one in node.generators for test in one.ifs]
        names = [name for walk in walks for name in names_walked(walk)]
        found += [inner.lineno for one in within for inner in ast.walk(one) if changed_name(inner) in names]
    return found


def places_of_own_names(node):
    """What stands right within a node where a name of Python's own may stand."""
    if isinstance(node, ast.ClassDef):
        return node.bases
    if isinstance(node, ast.keyword):
        return [node.value] if node.arg == "key" and getattr(node.value, "id", "") in KEYS else []
    if called_name(node) == "isinstance":
        kinds = node.args[1]
        return [node.func] + (kinds.elts if isinstance(kinds, ast.Tuple) else [kinds])
    return [node.func] if isinstance(node, ast.Call) else []


def is_only_read(outer, held):
    """Whether the node that a list or dict of a file's top stands straight within reads it and hands it on to none."""
    if isinstance(outer, ast.Subscript):
        return outer.value is held and isinstance(outer.ctx, ast.Load)
    if isinstance(outer, ast.Attribute):
        return outer.attr in ("get", "items", "keys", "values", "index", "count")
    if isinstance(outer, ast.Call):
        return called_name(outer) in ("len", "list", "dict", "tuple", "sorted")
    return isinstance(outer, (ast.Compare, ast.For, ast.comprehension))


def own_methods():
    return set(inner.name for where, node in nodes() if isinstance(node, ast.ClassDef) for inner in node.body
               if isinstance(inner, ast.FunctionDef))


class LanguageTest(unittest.TestCase):

    def test_files(self):
        self.assertTrue((PACKAGE / "__init__.py").is_file())
        for path in PACKAGE.iterdir():
            if path.name != "__pycache__":
                self.assertRegex(path.name, r"^(__init__|[a-z][a-z0-9_]*)\.py$")

    def test_lines_and_signs(self):
        for name, text in sources():
            rows = text.split("\n")
            self.assertLessEqual(len(rows), 400, name)
            for number, row in enumerate(rows, start=1):
                self.assertRegex(row, r"^[ -~]{0,120}$", f"{name}:{number}")
                self.assertIsNone(NO_WORDS.search(row), f"{name}:{number}")

    def test_defs(self):
        for where, node in nodes():
            if isinstance(node, ast.FunctionDef):
                self.assertLessEqual(node.end_lineno - node.lineno + 1, 40, where)
                self.assertEqual(node.decorator_list, [], where)
                args = node.args
                self.assertFalse(args.vararg or args.kwarg or args.kwonlyargs or args.posonlyargs, where)

    def test_classes(self):
        for where, node in nodes():
            if isinstance(node, ast.ClassDef):
                self.assertEqual(node.decorator_list + node.keywords, [], where)
                self.assertLessEqual(len(node.bases), 1, where)
                for inner in node.body:
                    self.assertIsInstance(inner, (ast.FunctionDef, ast.Pass), where)

    def test_tops_of_files(self):
        kinds = (ast.ImportFrom, ast.FunctionDef, ast.ClassDef, ast.Assign)
        for name, text in sources():
            body = ast.parse(text).body
            self.assertIsInstance(ast.parse(text).body[0], ast.Expr, name)
            for node in body[1:]:
                self.assertIsInstance(node, kinds, name)
                if isinstance(node, ast.ImportFrom):
                    self.assertRegex(node.module or "", r"^boughworth\.[a-z]", name)
                    self.assertEqual(node.level, 0, name)
                    self.assertTrue(all(alias.name != "*" for alias in node.names), name)

    def test_values_at_the_tops_of_files(self):
        for name, text in sources():
            bound = []
            for node in ast.parse(text).body:
                if isinstance(node, ast.Assign):
                    bound.append(node.targets[0].id)
                    for inner in ast.walk(node.value):
                        self.assertIsInstance(inner, PLAIN_VALUES, f"{name}:{node.lineno}")
                        if inner is not node.value:
                            self.assertNotIsInstance(inner, (ast.List, ast.Dict), f"{name}:{node.lineno}")
            self.assertEqual(len(bound), len(set(bound)), name)

    def test_imports_are_from_the_very_file_and_never_round(self):
        drawn = {}
        for name, text in sources():
            imports = [node for node in ast.parse(text).body if isinstance(node, ast.ImportFrom)]
            drawn[name] = [node.module.removeprefix("boughworth.") + ".py" for node in imports]
            for node, other in zip(imports, drawn[name]):
                own_names = names_at_top((PACKAGE / other).read_text(encoding="utf-8"))
                for alias in node.names:
                    self.assertIn(alias.name, own_names, name)
        while drawn:
            last = [name for name in drawn if not any(other in drawn for other in drawn[name])]
            self.assertTrue(last, f"these draw from one another: {sorted(drawn)}")
            drawn = {name: others for name, others in drawn.items() if name not in last}

    def test_no_local_is_called_like_an_import_a_class_or_a_def(self):
        for name, text in sources():
            tree = ast.parse(text)
            taken = names_at_top(text)
            taken += [alias.name for node in tree.body if isinstance(node, ast.ImportFrom) for alias in node.names]
            for top in tree.body:
                if isinstance(top, (ast.FunctionDef, ast.ClassDef)):
                    for node in ast.walk(top):
                        if isinstance(node, (ast.arg, ast.Name)):
                            for local in bound_names(node):
                                self.assertNotIn(local, taken, f"{name}:{node.lineno}")

    def test_what_is_walked_at_once(self):
        for name, text in sources():
            self.assertEqual(rows_of_kept_walks(text), [], name)

    def test_the_look_at_walks_finds_each_that_is_kept(self):
        for walk in ("zip(a, b)", "enumerate(a)", "reversed(a)", "range(n)", "d.items()", "d.keys()", "d.values()"):
            for form in WALKS_KEPT:
                self.assertIn(2, rows_of_kept_walks("def told(a, b, d, n):\n    " + form.replace("WALK", walk)), form)
            for form in WALKED_AT_ONCE:
                self.assertEqual(rows_of_kept_walks(form.replace("WALK", walk)), [], form)
        for word in WALKED_METHODS:
            self.assertEqual(rows_of_kept_walks(f"walk = d.{word}"), [1], word)
        for word in WALKED_NAMES:
            self.assertEqual(rows_of_kept_walks(f"walk = {word}"), [1], word)

    def test_nothing_that_a_loop_walks_is_changed_in_it(self):
        for name, text in sources():
            self.assertEqual(rows_of_changed_walks(text), [], name)

    def test_the_look_at_loops_finds_each_change(self):
        changes = ("d[0] = 1", "d[0] += 1", "d.append(1)", "d[0].pop()", "d.inner.clear()")
        for walked in ("d", "enumerate(d)", "zip(b, d)", "reversed(d)", "d.items()", "d[0]", "d.inner",
                       "zip(b, enumerate(d.values()))"):
            for change in changes:
                self.assertEqual(rows_of_changed_walks(f"for one in {walked}:\n    {change}"), [2], walked)
                deeper = f"for one in {walked}:\n    if b:\n        {change}"
                self.assertEqual(rows_of_changed_walks(deeper), [3], walked)
            self.assertEqual(rows_of_changed_walks(f"told = [d.pop() for one in {walked}]"), [1], walked)
            self.assertEqual(rows_of_changed_walks(f"told = [one for one in {walked} if d.pop()]"), [1], walked)
            self.assertEqual(rows_of_changed_walks(f"for one in {walked}:\n    told.append(d[0])"), [], walked)
        for walked in ("list(d)", "sorted(d)", "told(d)", "range(len(d))"):
            for change in changes:
                self.assertEqual(rows_of_changed_walks(f"for one in {walked}:\n    {change}"), [], walked)

    def test_sets_are_only_asked_compared_counted_or_sorted(self):
        for name, text in sources():
            self.assertEqual(rows_of_kept_sets(text), [], name)

    def test_the_look_at_sets_finds_each_that_is_kept(self):
        for form in SETS_KEPT:
            self.assertIn(1, rows_of_kept_sets(form.replace("SET", "set(a)")), form)
        for form in SETS_USED_AT_ONCE:
            self.assertEqual(rows_of_kept_sets(form.replace("SET", "set(a)")), [], form)

    def test_statements(self):
        for where, node in nodes():
            if isinstance(node, ast.stmt):
                self.assertIsInstance(node, STATEMENTS, where)
            if isinstance(node, (ast.For, ast.While)):
                self.assertEqual(node.orelse, [], where)
            if isinstance(node, ast.Assign):
                self.assertEqual(len(node.targets), 1, where)
            if isinstance(node, ast.Try):
                self.assertEqual(node.finalbody, [], where)
            if isinstance(node, ast.ExceptHandler):
                self.assertIsNotNone(node.type, where)

    def test_expressions(self):
        for where, node in nodes():
            self.assertNotIsInstance(node, NO_EXPRESSIONS, where)
            if isinstance(node, ast.Constant):
                self.assertNotIsInstance(node.value, (float, complex, bytes), where)
                self.assertFalse(isinstance(node.value, str) and "%" in node.value, where)
            if isinstance(node, ast.ListComp):
                self.assertEqual(len(node.generators), 1, where)
                self.assertLessEqual(len(node.generators[0].ifs), 1, where)
            if isinstance(node, ast.Compare) and any(isinstance(op, (ast.Is, ast.IsNot)) for op in node.ops):
                self.assertIsInstance(node.comparators[-1], ast.Constant, where)

    def test_calls_by_themselves(self):
        for where, node in nodes():
            has_docstring = isinstance(node, (ast.Module, ast.FunctionDef, ast.ClassDef)) and ast.get_docstring(node)
            for inner in ast.iter_child_nodes(node):
                if isinstance(inner, ast.Expr) and not (has_docstring and inner is node.body[0]):
                    self.assertIsInstance(inner.value, ast.Call, where)

    def test_texts_made_of_names(self):
        for where, node in nodes():
            if isinstance(node, ast.FormattedValue):
                self.assertIsInstance(node.value, ast.Name, where)
                self.assertIsNone(node.format_spec, where)

    def test_signs_within_texts(self):
        for name, text in sources():
            for found in re.findall(r"\\.", text, re.DOTALL):
                self.assertIn(found[1], "nt\\'\"", name)

    def test_powers_have_a_written_exponent(self):
        for where, node in nodes():
            if isinstance(node, (ast.BinOp, ast.AugAssign)) and isinstance(node.op, ast.Pow):
                exponent = node.right if isinstance(node, ast.BinOp) else node.value
                self.assertIsInstance(exponent, ast.Constant, where)
                self.assertIn(exponent.value, range(65), where)

    def test_errors_are_made_where_they_are_raised(self):
        for where, node in nodes():
            if isinstance(node, ast.Raise):
                self.assertIsInstance(node.exc, ast.Call, where)

    def test_keywords_of_pythons_own_names_and_methods(self):
        for where, node in nodes():
            if isinstance(node, ast.Call) and (isinstance(node.func, ast.Attribute) or called_name(node) in OWN_NAMES):
                for keyword in node.keywords:
                    self.assertIn(keyword.arg, KEYWORDS.get(called_name(node), ()), where)

    def test_names_of_pythons_own_are_called(self):
        for name, text in sources():
            found = list(ast.walk(ast.parse(text)))
            placed = set(inner for node in found for inner in places_of_own_names(node))
            for node in found:
                if isinstance(node, ast.Name) and node.id in OWN_NAMES:
                    self.assertIn(node, placed, f"{name}:{node.lineno}")

    def test_what_a_file_holds_at_its_top_is_only_read(self):
        for name, text in sources():
            tree = ast.parse(text)
            held = [node.targets[0].id for node in tree.body
                    if isinstance(node, ast.Assign) and isinstance(node.value, (ast.List, ast.Dict))]
            for node in ast.walk(tree):
                for inner in ast.iter_child_nodes(node):
                    if isinstance(inner, ast.Name) and inner.id in held and isinstance(inner.ctx, ast.Load):
                        self.assertTrue(is_only_read(node, inner), f"{name}:{inner.lineno}")
                if isinstance(node, ast.ImportFrom):
                    others = (PACKAGE / (node.module.removeprefix("boughworth.") + ".py")).read_text(encoding="utf-8")
                    for alias in node.names:
                        self.assertNotRegex(others, rf"(?m)^{alias.name} = [\[{{]", name)

    def test_no_two_lambdas_stand_on_one_line(self):
        rows = [where for where, node in nodes() if isinstance(node, ast.Lambda)]
        self.assertEqual(len(rows), len(set(rows)))

    def test_no_annotations(self):
        for where, node in nodes():
            if isinstance(node, (ast.arg, ast.FunctionDef)):
                self.assertIsNone(node.annotation if isinstance(node, ast.arg) else node.returns, where)

    def test_names(self):
        for where, node in nodes():
            for name in bound_names(node):
                if name not in SPECIAL_METHODS:
                    self.assertRegex(name, r"^[A-Za-z][A-Za-z0-9_]*$", where)
                    self.assertNotIn(name, NO_NAMES, where)
                if isinstance(node, (ast.arg, ast.Name)):
                    self.assertFalse(hasattr(builtins, name), where)
            if isinstance(node, ast.Name) and hasattr(builtins, node.id):
                self.assertIn(node.id, OWN_NAMES, where)

    def test_methods(self):
        known = METHODS | own_methods() | {"__init__"}
        for where, node in nodes():
            if isinstance(node, ast.Call) and isinstance(node.func, ast.Attribute):
                self.assertIn(node.func.attr, known, where)

    def test_no_name_is_a_method_and_a_value(self):
        taken = own_methods()
        python_names = set(dir(str) + dir(int) + dir(list) + dir(dict) + dir(set) + dir(bytes) + dir(tuple))
        for name in taken - {"__init__"}:
            self.assertNotIn(name, python_names)
        for name, text in sources():
            tree = ast.parse(text)
            called = [node.func for node in ast.walk(tree) if isinstance(node, ast.Call)]
            for node in ast.walk(tree):
                if isinstance(node, ast.Attribute) and node not in called:
                    self.assertNotIn(node.attr, taken, f"{name}:{node.lineno}")
                    self.assertNotIn(node.attr, python_names, f"{name}:{node.lineno}")

    def test_defaults_and_decorators(self):
        for where, node in nodes():
            if isinstance(node, (ast.FunctionDef, ast.ClassDef)):
                self.assertEqual(node.decorator_list, [], where)
            if isinstance(node, ast.arguments):
                self.assertEqual((node.vararg, node.kwarg, node.kwonlyargs), (None, None, []), where)


if __name__ == "__main__":
    unittest.main()
