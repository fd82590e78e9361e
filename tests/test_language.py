"""The package keeps to the small part of Python that LANGUAGE.md tells.

Each check bears the numbers of its rules. They see less than the rules ask: a first net, not the whole of it.
"""

import ast
import builtins
import pathlib
import re
import unittest

PACKAGE = pathlib.Path(__file__).resolve().parent.parent / "twomakes"

STATEMENTS = (
    ast.Assign, ast.AugAssign, ast.If, ast.While, ast.For, ast.Return, ast.Break, ast.Continue, ast.Pass,
    ast.Raise, ast.Try, ast.Expr, ast.FunctionDef, ast.ClassDef, ast.ImportFrom,
)
EXPRESSIONS = (
    ast.Constant, ast.JoinedStr, ast.FormattedValue, ast.List, ast.Tuple, ast.Dict, ast.Set, ast.BinOp,
    ast.UnaryOp, ast.Compare, ast.BoolOp, ast.IfExp, ast.Call, ast.Attribute, ast.Subscript, ast.Slice,
    ast.ListComp, ast.Name, ast.Lambda,
)
OWN_NAMES = set(
    "len range enumerate zip min max sum abs sorted reversed int str bool list tuple dict set frozenset "
    "isinstance ord repr any all divmod Exception ValueError TypeError KeyError IndexError LookupError "
    "ZeroDivisionError ArithmeticError OverflowError RuntimeError NotImplementedError AttributeError "
    "StopIteration".split()
)
METHODS = set(
    "append clear copy count endswith extend find get index insert isalnum isalpha isdigit islower isspace "
    "isupper items join keys ljust lower lstrip partition pop remove replace reverse rfind rjust rpartition "
    "rsplit rstrip setdefault split splitlines startswith strip update upper values zfill bit_length".split()
)
NOWHERE = set("register mro elements open input version_info with_traceback add_note".split())
NOT_AS_NAMES = set(
    "attrgetter breakpoint builtins compile copyright credits delattr dir eval exec exit gc getattr globals hasattr "
    "help id importlib license locals methodcaller os quit setattr super type vars sys".split()
)
WALKED_IN = set("list tuple dict sorted sum any all enumerate zip min max".split())
CHANGING = set("append clear extend insert pop remove reverse setdefault update".split())
KEYWORDS = {
    "sorted": {"key", "reverse"}, "min": {"key", "default"}, "max": {"key", "default"}, "sum": {"start"},
    "enumerate": {"start"}, "zip": {"strict"},
}
SPECIAL = {"__init__", "__eq__", "__repr__", "__str__", "__len__"}
WORDS = re.compile(
    r"\b(type|typing|typing_extensions|enum|Enum|IntEnum|StrEnum|Flag|IntFlag|Generic|Protocol|ABC|ABCMeta"
    r"|namedtuple|NamedTuple|TypedDict|TYPE_CHECKING|abstractmethod)\b|dataclass|overload|contextmanager"
)

FILES = sorted(path for path in PACKAGE.rglob("*") if "__pycache__" not in path.parts)
TEXTS = {path.name: path.read_text(encoding="utf-8") for path in FILES}
TREES = {name: ast.parse(text) for name, text in TEXTS.items()}


def methods(tree):
    return [node for one in tree.body if isinstance(one, ast.ClassDef) for node in one.body]


def bound_names(tree):
    """All names that a file binds anywhere, but for methods."""
    names = set()
    for node in ast.walk(tree):
        if isinstance(node, (ast.FunctionDef, ast.ClassDef)):
            if node not in methods(tree):
                names.add(node.name)
        elif isinstance(node, ast.arg):
            names.add(node.arg)
        elif isinstance(node, ast.Name) and isinstance(node.ctx, ast.Store):
            names.add(node.id)
        elif isinstance(node, ast.alias):
            names.add(node.asname or node.name)
    return names


def nodes():
    for name, tree in TREES.items():
        for node in ast.walk(tree):
            yield f"{name}:{getattr(node, 'lineno', 0)}", node


def parents(tree):
    return {child: node for node in ast.walk(tree) for child in ast.iter_child_nodes(node)}


def calls(tree, names):
    for node in ast.walk(tree):
        if isinstance(node, ast.Call) and isinstance(node.func, ast.Name) and node.func.id in names:
            yield node


def method_calls(tree, names):
    for node in ast.walk(tree):
        if isinstance(node, ast.Call) and isinstance(node.func, ast.Attribute) and node.func.attr in names:
            yield node


def own_classes():
    return {node.name for tree in TREES.values() for node in tree.body if isinstance(node, ast.ClassDef)}


def top_values(tree):
    return {node.targets[0].id: node.value for node in tree.body if isinstance(node, ast.Assign)}


class Language(unittest.TestCase):
    def test_l1_l14_files(self):
        self.assertIn("__init__.py", TEXTS)
        for path in FILES:
            self.assertRegex(path.name, r"^[a-z0-9_]+\.py$")

    def test_l2_l16_imports(self):
        for at, node in nodes():
            self.assertNotIsInstance(node, ast.Import, at)
            if isinstance(node, ast.ImportFrom):
                self.assertEqual(node.level, 0, at)
                self.assertRegex(node.module, r"^twomakes\.[a-z0-9_]+$", at)
                source = TREES[node.module.split(".")[1] + ".py"]
                defined = {n.name for n in source.body if isinstance(n, (ast.FunctionDef, ast.ClassDef))}
                defined |= {t.id for n in source.body if isinstance(n, ast.Assign) for t in n.targets}
                self.assertLessEqual({alias.name for alias in node.names}, defined, at)

    def test_l4_functions(self):
        for at, node in nodes():
            if isinstance(node, ast.arguments):
                self.assertFalse(node.vararg or node.kwarg or node.kwonlyargs or node.posonlyargs, at)
            if isinstance(node, (ast.FunctionDef, ast.ClassDef)):
                self.assertEqual(node.decorator_list, [], at)

    def test_l6_l7_statements_and_expressions(self):
        for at, node in nodes():
            if isinstance(node, ast.stmt):
                self.assertIsInstance(node, STATEMENTS, at)
            if isinstance(node, ast.expr):
                self.assertIsInstance(node, EXPRESSIONS, at)
            self.assertNotIsInstance(node, (ast.Div, ast.MatMult), at)
            if isinstance(node, (ast.For, ast.While)):
                self.assertEqual(node.orelse, [], at)
            if isinstance(node, ast.Try):
                self.assertEqual(node.finalbody, [], at)
            if isinstance(node, ast.Assign):
                self.assertEqual(len(node.targets), 1, at)
            if isinstance(node, ast.ListComp):
                self.assertEqual(len(node.generators), 1, at)
                self.assertLessEqual(len(node.generators[0].ifs), 1, at)
            if isinstance(node, ast.Constant):
                self.assertIsInstance(node.value, (int, str, bool, type(None)), at)

    def test_l8_l12_l15_names(self):
        of_python = {name for name in dir(builtins) if not name.startswith("__")}
        for at, node in nodes():
            if isinstance(node, ast.Name) and node.id in of_python:
                self.assertIn(node.id, OWN_NAMES, at)
        for tree in TREES.values():
            for name in bound_names(tree):
                self.assertNotIn(name, of_python)
                self.assertFalse(name.startswith("_"), name)

    def test_l17_names_that_are_not_used(self):
        for at, node in nodes():
            for field in ("id", "attr", "name", "arg"):
                name = getattr(node, field, None)
                if isinstance(name, str):
                    self.assertNotIn(name, NOWHERE, at)

    def test_l10_sizes(self):
        for name, text in TEXTS.items():
            lines = text.splitlines()
            self.assertLessEqual(len(lines), 400, name)
            self.assertLessEqual(max(len(line) for line in lines), 120, name)
        for at, node in nodes():
            if isinstance(node, ast.FunctionDef):
                self.assertLessEqual(node.end_lineno - node.lineno + 1, 40, at)

    def test_l14_l17_l27_signs_and_words(self):
        for name, text in TEXTS.items():
            self.assertRegex(text, r"\A[\n -~]*\Z", name)
            self.assertNotRegex(text, WORDS, name)
        for at, node in nodes():
            if isinstance(node, ast.Constant) and isinstance(node.value, str):
                self.assertNotIn("%", node.value, at)

    def test_l20_is(self):
        for at, node in nodes():
            if isinstance(node, ast.Compare):
                for operator, right in zip(node.ops, node.comparators):
                    if isinstance(operator, (ast.Is, ast.IsNot)):
                        self.assertIsInstance(right, ast.Constant, at)
                        self.assertIn(repr(right.value), ("None", "True", "False"), at)

    def test_l15_locals_are_called_like_no_class_and_no_import(self):
        for name, tree in TREES.items():
            taken = {node.name for node in tree.body if isinstance(node, ast.ClassDef)}
            taken |= {alias.name for node in tree.body if isinstance(node, ast.ImportFrom) for alias in node.names}
            for node in ast.walk(tree):
                if isinstance(node, ast.arg):
                    self.assertNotIn(node.arg, taken, name)
                if isinstance(node, ast.Name) and isinstance(node.ctx, ast.Store):
                    self.assertNotIn(node.id, taken, name)

    def test_l16_no_two_files_draw_from_one_another(self):
        drawn = {
            name: {n.module.split(".")[1] + ".py" for n in tree.body if isinstance(n, ast.ImportFrom)}
            for name, tree in TREES.items()
        }
        while drawn:
            free = [name for name, others in drawn.items() if not others & set(drawn)]
            self.assertTrue(free, drawn)
            for name in free:
                del drawn[name]

    def test_l5_l18_classes(self):
        values = {
            node.attr for _, node in nodes() if isinstance(node, ast.Attribute) and isinstance(node.ctx, ast.Store)
        }
        for name, tree in TREES.items():
            for node in methods(tree):
                self.assertIsInstance(node, (ast.FunctionDef, ast.Pass), name)
                if isinstance(node, ast.FunctionDef):
                    self.assertNotIn(node.name, values, name)
        of_python = {word for kind in (str, int, list, dict, set, bytes, tuple) for word in dir(kind)}
        self.assertEqual(values & of_python, set())

    def test_l3_l15_the_top_of_a_module(self):
        for name, tree in TREES.items():
            bound = []
            for place, node in enumerate(tree.body):
                if place == 0:
                    self.assertIsInstance(ast.literal_eval(node.value), str, name)
                    continue
                self.assertIsInstance(node, (ast.ImportFrom, ast.FunctionDef, ast.ClassDef, ast.Assign), name)
                if isinstance(node, ast.ImportFrom):
                    bound += [alias.name for alias in node.names]
                    self.assertTrue(all(alias.asname is None for alias in node.names), name)
                elif isinstance(node, ast.Assign):
                    bound.append(node.targets[0].id)
                    ast.literal_eval(node.value)
                else:
                    bound.append(node.name)
            self.assertEqual(len(bound), len(set(bound)), name)
            nested = [node for node in ast.walk(tree) if isinstance(node, (ast.ClassDef, ast.ImportFrom))]
            self.assertEqual([node for node in nested if node not in tree.body], [], name)

    def test_l15_lists_and_dicts_of_the_top_are_only_read(self):
        for name, tree in TREES.items():
            above = parents(tree)
            kept = {key for key, value in top_values(tree).items() if isinstance(value, (ast.List, ast.Dict))}
            for value in top_values(tree).values():
                for node in ast.walk(value):
                    self.assertTrue(node is value or not isinstance(node, (ast.List, ast.Dict)), name)
            for node in ast.walk(tree):
                if isinstance(node, ast.Name) and node.id in kept and isinstance(node.ctx, ast.Load):
                    user = above[node]
                    self.assertIsInstance(user, (ast.Subscript, ast.Compare, ast.For), f"{name}:{node.lineno}")
                    if isinstance(user, ast.Subscript):
                        self.assertIsInstance(user.ctx, ast.Load, f"{name}:{node.lineno}")

    def test_l7_f_strings_and_l27_numbers(self):
        for at, node in nodes():
            if isinstance(node, ast.FormattedValue):
                self.assertIsInstance(node.value, ast.Name, at)
                self.assertIsNone(node.format_spec, at)
            if isinstance(node, ast.BinOp) and isinstance(node.op, ast.Pow):
                self.assertTrue(isinstance(node.right, ast.Constant) and 0 <= node.right.value <= 64, at)

    def test_l6_plain_targets(self):
        for at, node in nodes():
            if isinstance(node, (ast.For, ast.comprehension)) and isinstance(node.target, ast.Tuple):
                for part in node.target.elts:
                    self.assertIsInstance(part, ast.Name, at)

    def test_l17_not_as_names(self):
        for at, node in nodes():
            for field in ("id", "arg", "name"):
                self.assertNotIn(getattr(node, field, None), NOT_AS_NAMES, at)

    def test_l18_classes_are_called_or_stand_above(self):
        for name, tree in TREES.items():
            above = parents(tree)
            for node in ast.walk(tree):
                if isinstance(node, ast.Name) and node.id in own_classes():
                    user = above[node]
                    called = isinstance(user, ast.Call) and user.func is node
                    self.assertTrue(called or isinstance(user, (ast.ClassDef, ast.ExceptHandler)), f"{name}:{node.lineno}")

    def test_l19_errors(self):
        for at, node in nodes():
            if isinstance(node, ast.ExceptHandler):
                self.assertIsInstance(node.type, ast.Name, at)
                self.assertIn(node.type.id, own_classes() | {"KeyError", "ZeroDivisionError", "StopIteration"}, at)
            if isinstance(node, ast.Raise):
                self.assertIsInstance(node.exc, ast.Call, at)
                self.assertIn(node.exc.func.id, own_classes(), at)

    def test_l22_keywords_and_calls(self):
        for name, tree in TREES.items():
            above = parents(tree)
            for node in ast.walk(tree):
                if isinstance(node, ast.Call):
                    allowed = KEYWORDS.get(getattr(node.func, "id", None), set())
                    self.assertLessEqual({one.arg for one in node.keywords}, allowed, f"{name}:{node.lineno}")
                if isinstance(node, ast.Name) and node.id in OWN_NAMES and not node.id[0].isupper():
                    user = above[node]
                    self.assertTrue(isinstance(user, ast.Call) and user.func is node, f"{name}:{node.lineno}")

    def test_l23_walked_at_once(self):
        for name, tree in TREES.items():
            above = parents(tree)
            walked = list(calls(tree, {"zip", "enumerate", "reversed", "range"}))
            for node in walked + list(method_calls(tree, {"items", "keys", "values"})):
                user = above[node]
                looped = isinstance(user, (ast.For, ast.comprehension)) and user.iter is node
                inside = isinstance(user, ast.Call) and getattr(user.func, "id", None) in WALKED_IN
                self.assertTrue(looped or (inside and user.args[0] is node), f"{name}:{node.lineno}")

    def test_l23_what_a_loop_walks_is_not_changed_in_it(self):
        for name, tree in TREES.items():
            for loop in ast.walk(tree):
                if isinstance(loop, ast.For):
                    source = {ast.unparse(node) for node in ast.walk(loop.iter) if isinstance(node, (ast.Name, ast.Attribute))}
                    for body in loop.body:
                        for node in method_calls(body, CHANGING):
                            self.assertNotIn(ast.unparse(node.func.value), source, f"{name}:{node.lineno}")

    def test_l24_sets(self):
        for name, tree in TREES.items():
            above = parents(tree)
            for node in calls(tree, {"set", "frozenset"}):
                user = above[node]
                inside = isinstance(user, ast.Call) and user.func.id in ("sorted", "len") and not user.keywords
                self.assertTrue(inside or isinstance(user, ast.Compare), f"{name}:{node.lineno}")
            self.assertEqual([node for node in ast.walk(tree) if isinstance(node, ast.Set)], [], name)

    def test_l25_methods_are_called_where_they_stand(self):
        own = {node.name for tree in TREES.values() for node in methods(tree) if isinstance(node, ast.FunctionDef)}
        for name, tree in TREES.items():
            above = parents(tree)
            for node in ast.walk(tree):
                if isinstance(node, ast.Attribute) and node.attr in METHODS | own:
                    user = above[node]
                    self.assertTrue(isinstance(user, ast.Call) and user.func is node, f"{name}:{node.lineno}")

    def test_l21_no_annotations(self):
        for at, node in nodes():
            self.assertIsNone(getattr(node, "annotation", None), at)
            self.assertIsNone(getattr(node, "returns", None), at)

    def test_l25_methods(self):
        own = {node.name for tree in TREES.values() for node in methods(tree) if isinstance(node, ast.FunctionDef)}
        for at, node in nodes():
            if isinstance(node, ast.Call) and isinstance(node.func, ast.Attribute):
                self.assertIn(node.func.attr, METHODS | own | SPECIAL, at)


if __name__ == "__main__":
    unittest.main()
