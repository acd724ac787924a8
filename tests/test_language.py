"""The package's own files keep to the small part of Python that LANGUAGE.md tells.

Only what can be read off the files step by step is looked at here; the rules
that speak of meaning (say L11 or L15's copies) are left to the reader.
"""

import ast
import builtins
import re
import unittest
from pathlib import Path

PACKAGE = Path(__file__).resolve().parent.parent / "stillflow"
FILES = sorted(PACKAGE.rglob("*.py"))

STATEMENTS = (
    ast.FunctionDef, ast.ClassDef, ast.ImportFrom, ast.Assign, ast.AugAssign, ast.If, ast.While, ast.For,
    ast.Return, ast.Break, ast.Continue, ast.Pass, ast.Raise, ast.Try, ast.Expr,
)
EXPRESSIONS = (
    ast.Constant, ast.List, ast.Tuple, ast.Dict, ast.Set, ast.BinOp, ast.UnaryOp, ast.BoolOp, ast.Compare, ast.IfExp,
    ast.Call, ast.Attribute, ast.Subscript, ast.Slice, ast.ListComp, ast.JoinedStr, ast.FormattedValue, ast.Name,
    ast.Lambda,
)
ERROR_NAMES = (
    "Exception ValueError TypeError KeyError IndexError LookupError ZeroDivisionError ArithmeticError OverflowError "
    "RuntimeError NotImplementedError AttributeError StopIteration"
).split()
PYTHON_NAMES = (
    "len range enumerate zip min max sum abs sorted reversed int str bool list tuple dict set frozenset isinstance "
    "ord repr any all divmod"
).split() + ERROR_NAMES
METHODS = (
    "append clear copy count endswith extend find get index insert isalnum isalpha isdigit islower isspace isupper "
    "items join keys ljust lower lstrip partition pop remove replace reverse rfind rjust rpartition rsplit rstrip "
    "setdefault split splitlines startswith strip update upper values zfill bit_length"
).split()
UNDERSCORED = ("__init__", "__eq__", "__repr__", "__str__", "__len__", "__all__", "__version__")
UNUSED = (
    "register mro elements open input version_info with_traceback add_note attrgetter breakpoint builtins compile "
    "copyright credits delattr dir eval exec exit gc getattr globals hasattr help id importlib license locals "
    "methodcaller os quit setattr super type vars sys format format_map"
).split()
UNWRITTEN = (
    "type typing typing_extensions enum Enum IntEnum StrEnum Flag IntFlag Generic Protocol ABC ABCMeta namedtuple "
    "NamedTuple TypedDict TYPE_CHECKING abstractmethod"
).split()

NOWHERE = UNUSED[:8] + ["format", "format_map", "args", "encode"]
# What a value of an object may be called, though Python's own values have a method of this name.
FREE_VALUES = "count index title find get join lower upper split strip copy add".split()

WALKED = ("zip", "enumerate", "reversed", "range")
CHANGING = "append clear extend insert pop remove reverse setdefault update".split()
WALKERS = ("list", "tuple", "dict", "sorted", "sum", "any", "all", "enumerate", "zip")
KEYWORDS = {
    "sorted": ("key", "reverse"), "min": ("key", "default"), "max": ("key", "default"),
    "sum": ("start",), "enumerate": ("start",), "zip": ("strict",),
}


def called(node):
    """The plain name that a node calls, if it calls one."""
    return node.func.id if isinstance(node, ast.Call) and isinstance(node.func, ast.Name) else None


def walked_on_the_spot(tree):
    """All nodes that stand where rule L23 has something walked at once."""
    found = []
    for node in ast.walk(tree):
        if isinstance(node, (ast.For, ast.comprehension)):
            found.append(node.iter)
        elif called(node) in WALKERS:
            found.extend(node.args if called(node) == "zip" else node.args[:1])
        elif called(node) in ("min", "max") and len(node.args) == 1:
            found.extend(node.args)
    return found


def is_stored(node):
    """Whether a node gives a value to an attribute."""
    return isinstance(node, ast.Attribute) and isinstance(node.ctx, ast.Store)


def changed_by(node):
    """The thing that a node changes, if it is a call of a changing method, or gives a value to an index."""
    if isinstance(node, ast.Call) and isinstance(node.func, ast.Attribute) and node.func.attr in CHANGING:
        return node.func.value
    if isinstance(node, ast.Subscript) and isinstance(node.ctx, ast.Store):
        # The changed thing is only read here: so it looks just as it does behind the loop's `in`.
        return node.value
    return None


def bound_names(tree):
    """All names that a file gives a meaning to."""
    names = []
    for node in ast.walk(tree):
        if isinstance(node, (ast.FunctionDef, ast.ClassDef)):
            names.append(node.name)
        elif isinstance(node, ast.arg):
            names.append(node.arg)
        elif isinstance(node, ast.alias):
            names.append(node.asname or node.name)
        elif isinstance(node, ast.ExceptHandler) and node.name:
            names.append(node.name)
        elif isinstance(node, ast.Name) and isinstance(node.ctx, ast.Store):
            names.append(node.id)
    return names


class Language(unittest.TestCase):
    def each_node(self, *kinds):
        for path in FILES:
            for node in ast.walk(ast.parse(path.read_text("utf-8"))):
                if isinstance(node, kinds):
                    yield f"{path.name}:{getattr(node, 'lineno', 0)}", node

    def test_files(self):
        self.assertTrue(FILES)
        for path in PACKAGE.rglob("*"):
            if path.is_file() and "__pycache__" not in path.parts:
                self.assertRegex(path.name, r"\A[a-z0-9_]+\.py\Z")

    def test_signs_words_and_sizes(self):
        for path in FILES:
            text = path.read_text("utf-8")
            self.assertRegex(text, r"\A[ -~\n]*\Z", path.name)
            self.assertLessEqual(len(text.split("\n")), 400, path.name)
            for line in text.split("\n"):
                self.assertLessEqual(len(line), 120, path.name)
            self.assertEqual([word for word in re.findall(r"\w+", text) if word in UNWRITTEN], [], path.name)
            self.assertNotRegex(text, "dataclass|overload|contextmanager")

    def test_statements_and_expressions(self):
        for place, node in self.each_node(ast.stmt):
            self.assertIsInstance(node, STATEMENTS, place)
        for place, node in self.each_node(ast.expr):
            self.assertIsInstance(node, EXPRESSIONS, place)
        for place, node in self.each_node(ast.Expr):
            self.assertIsInstance(node.value, (ast.Call, ast.Constant), place)
        for place, node in self.each_node(ast.Assign):
            self.assertEqual(len(node.targets), 1, place)
        for place, node in self.each_node(ast.For, ast.While):
            self.assertEqual(node.orelse, [], place)
        for place, node in self.each_node(ast.Try):
            self.assertEqual(node.finalbody, [], place)
        for place, node in self.each_node(ast.Div, ast.MatMult):
            self.fail(place)

    def test_values(self):
        for place, node in self.each_node(ast.Constant):
            self.assertIsInstance(node.value, (int, str, bool, type(None)), place)
        for place, node in self.each_node(ast.ListComp):
            self.assertEqual(len(node.generators), 1, place)
            self.assertLessEqual(len(node.generators[0].ifs), 1, place)

    def test_is_stands_beside_none_true_and_false(self):
        for place, node in self.each_node(ast.Compare):
            for sign, right in zip(node.ops, node.comparators):
                if isinstance(sign, (ast.Is, ast.IsNot)):
                    self.assertIn(ast.dump(right), [ast.dump(ast.Constant(value)) for value in (None, True, False)])

    def test_functions(self):
        for place, node in self.each_node(ast.FunctionDef):
            self.assertLessEqual(node.end_lineno - node.lineno + 1, 40, place)
            self.assertEqual(node.decorator_list, [], place)
            self.assertIs(node.returns, None, place)
        for place, node in self.each_node(ast.arguments):
            self.assertEqual((node.vararg, node.kwarg, node.kwonlyargs, node.posonlyargs), (None, None, [], []), place)
        for place, node in self.each_node(ast.arg):
            self.assertIs(node.annotation, None, place)

    def test_classes(self):
        for place, node in self.each_node(ast.ClassDef):
            self.assertLessEqual(len(node.bases), 1, place)
            self.assertEqual((node.decorator_list, node.keywords), ([], []), place)
            for part in node.body:
                words = isinstance(part, ast.Expr) and isinstance(part.value, ast.Constant)
                self.assertTrue(words or isinstance(part, (ast.FunctionDef, ast.Pass)), place)

    def test_imports(self):
        modules = {f"stillflow.{path.stem}" for path in FILES}
        for place, node in self.each_node(ast.ImportFrom):
            self.assertEqual(node.level, 0, place)
            self.assertIn(node.module, modules, place)
            defined = ast.parse((PACKAGE / f"{node.module.split('.')[1]}.py").read_text("utf-8")).body
            tops = [part.name for part in defined if isinstance(part, (ast.FunctionDef, ast.ClassDef))]
            tops += [part.targets[0].id for part in defined if isinstance(part, ast.Assign)]
            for alias in node.names:
                self.assertIn(alias.name, tops, place)

    def test_no_files_draw_from_one_another(self):
        drawn = {path.stem: set() for path in FILES}
        for path in FILES:
            for node in ast.walk(ast.parse(path.read_text("utf-8"))):
                if isinstance(node, ast.ImportFrom):
                    drawn[path.stem].add(node.module.split(".")[1])
        self.assertEqual(drawn.pop("__init__"), set())
        while drawn:
            free = [name for name in drawn if not drawn[name] & set(drawn)]
            self.assertTrue(free, f"these draw from one another: {sorted(drawn)}")
            for name in free:
                del drawn[name]

    def test_each_name_of_the_top_is_bound_once(self):
        for path in FILES:
            tops = []
            for part in ast.parse(path.read_text("utf-8")).body:
                if isinstance(part, ast.ImportFrom):
                    tops += [alias.asname or alias.name for alias in part.names]
                elif isinstance(part, ast.Assign):
                    tops.append(part.targets[0].id)
                elif not isinstance(part, ast.Expr):
                    tops.append(part.name)
            self.assertEqual(len(tops), len(set(tops)), path.name)

    def test_walked_at_once(self):
        for path in FILES:
            tree = ast.parse(path.read_text("utf-8"))
            walked = walked_on_the_spot(tree)
            for node in ast.walk(tree):
                if called(node) in WALKED:
                    self.assertIn(node, walked, f"{path.name}:{node.lineno}")

    def test_keywords_of_calls(self):
        for place, node in self.each_node(ast.Call):
            for keyword in node.keywords:
                self.assertIn(keyword.arg, KEYWORDS.get(called(node), ()), place)

    def test_texts(self):
        for place, node in self.each_node(ast.Constant):
            if isinstance(node.value, str):
                self.assertNotIn(chr(37), node.value, place)

    def test_names(self):
        for path in FILES:
            tree = ast.parse(path.read_text("utf-8"))
            bound = bound_names(tree)
            for name in [name for name in bound if name not in UNDERSCORED]:
                self.assertRegex(name, r"\A[A-Za-z][A-Za-z0-9_]*\Z", path.name)
                self.assertNotIn(name, PYTHON_NAMES + UNUSED, path.name)
                self.assertFalse(hasattr(builtins, name), f"{path.name}: {name}")
            read = [node.id for node in ast.walk(tree) if isinstance(node, ast.Name)]
            self.assertEqual([name for name in read if name not in bound + PYTHON_NAMES], [], path.name)

    def test_names_of_the_top_are_not_bound_again_within(self):
        for path in FILES:
            tree = ast.parse(path.read_text("utf-8"))
            tops = [part.name for part in tree.body if isinstance(part, ast.ClassDef)]
            for part in tree.body:
                if isinstance(part, ast.ImportFrom):
                    tops += [alias.name for alias in part.names]
            bound = bound_names(tree)
            self.assertEqual([name for name in tops if bound.count(name) > 1], [], path.name)

    def test_methods(self):
        own = [part.name for _, node in self.each_node(ast.ClassDef) for part in node.body if hasattr(part, "name")]
        for place, node in self.each_node(ast.Call):
            if isinstance(node.func, ast.Attribute):
                self.assertIn(node.func.attr, METHODS + own, place)

    def test_methods_are_called_where_they_stand(self):
        for path in FILES:
            tree = ast.parse(path.read_text("utf-8"))
            called_here = [id(node.func) for node in ast.walk(tree) if isinstance(node, ast.Call)]
            stored = [node.attr for node in ast.walk(tree) if is_stored(node)]
            for node in ast.walk(tree):
                if isinstance(node, ast.Attribute):
                    self.assertNotIn(node.attr, NOWHERE, f"{path.name}:{node.lineno}")
                    self.assertTrue(id(node) in called_here or node.attr in stored, f"{path.name}:{node.lineno}")

    def test_methods_and_values_of_objects(self):
        methods = {
            part.name for _, node in self.each_node(ast.ClassDef) for part in node.body
            if isinstance(part, ast.FunctionDef) and part.name not in UNDERSCORED
        }
        values = {node.attr for _, node in self.each_node(ast.Attribute) if is_stored(node)}
        python_own = {name for kind in (str, int, list, tuple, dict, set, bytes) for name in dir(kind)}
        self.assertEqual(methods & values, set())
        self.assertEqual(methods & python_own - set(METHODS) - {"add", "discard"}, set())
        self.assertEqual(values & python_own - set(FREE_VALUES), set())

    def test_values_are_given_through_a_local_name(self):
        for place, node in self.each_node(ast.Attribute):
            if is_stored(node):
                self.assertIsInstance(node.value, ast.Name, place)
                self.assertTrue(node.value.id.islower(), place)

    def test_making_an_object_gives_back_nothing(self):
        for place, node in self.each_node(ast.FunctionDef):
            if node.name == "__init__":
                self.assertEqual([part for part in ast.walk(node) if isinstance(part, ast.Return)], [], place)

    def test_what_a_loop_walks_is_not_changed_in_it(self):
        for place, node in self.each_node(ast.For):
            walked = {ast.dump(part) for part in ast.walk(node.iter) if isinstance(part, (ast.Name, ast.Attribute))}
            for part in [part for row in node.body for part in ast.walk(row)]:
                changed = changed_by(part)
                if changed is not None:
                    self.assertNotIn(ast.dump(changed), walked, place)

    def test_sets_are_not_kept(self):
        for path in FILES:
            tree = ast.parse(path.read_text("utf-8"))
            asked = []
            for node in ast.walk(tree):
                if called(node) in ("sorted", "len") and not node.keywords:
                    asked.extend(id(part) for part in ast.walk(node.args[0]))
                if isinstance(node, ast.Compare):
                    asked.extend(id(part) for part in [node.left] + node.comparators)
            for node in ast.walk(tree):
                if called(node) in ("set", "frozenset") or isinstance(node, ast.Set):
                    self.assertIn(id(node), asked, f"{path.name}:{node.lineno}")


if __name__ == "__main__":
    unittest.main()
