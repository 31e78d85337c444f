"""The package's files keep to the part of Python that the program is written in.

What can be read off a syntax tree with little effort is asked here, by the
numbers of LANGUAGE.md; the rest is left to the reader.
"""

import ast
import builtins
import pathlib
import re
import unittest

ROOT = pathlib.Path(__file__).resolve().parent.parent
PACKAGE = ROOT / "quiltlaw"

OWN_ERRORS = {"Exception", "ValueError", "TypeError", "KeyError", "IndexError", "LookupError",
              "ZeroDivisionError", "ArithmeticError", "OverflowError", "RuntimeError",
              "NotImplementedError", "AttributeError", "StopIteration"}
BUILTINS = OWN_ERRORS | set(
    "len range enumerate zip min max sum abs sorted reversed int str bool list tuple dict set"
    " frozenset isinstance ord repr any all divmod".split())
METHODS = set(
    "append clear copy count endswith extend find get index insert isalnum isalpha isdigit"
    " islower isspace isupper items join keys ljust lower lstrip partition pop remove replace"
    " reverse rfind rjust rpartition rsplit rstrip setdefault split splitlines startswith strip"
    " update upper values zfill bit_length".split())
DUNDERS = {"__init__", "__eq__", "__repr__", "__str__", "__len__"}
NODES = (
    ast.Module, ast.ImportFrom, ast.alias, ast.FunctionDef, ast.arguments, ast.arg, ast.Lambda,
    ast.ClassDef, ast.Assign, ast.AugAssign, ast.If, ast.While, ast.For, ast.Return, ast.Break,
    ast.Continue, ast.Pass, ast.Raise, ast.Try, ast.ExceptHandler, ast.Expr, ast.Constant,
    ast.List, ast.Tuple, ast.Dict, ast.Set, ast.BinOp, ast.UnaryOp, ast.BoolOp, ast.Compare,
    ast.IfExp, ast.Call, ast.keyword, ast.Attribute, ast.Subscript, ast.Slice, ast.ListComp,
    ast.comprehension, ast.JoinedStr, ast.FormattedValue, ast.Name, ast.expr_context,
    ast.operator, ast.unaryop, ast.boolop, ast.cmpop)
WORDS = set(
    "type typing typing_extensions enum Enum IntEnum StrEnum Flag IntFlag Generic Protocol ABC"
    " ABCMeta namedtuple NamedTuple TypedDict TYPE_CHECKING abstractmethod".split())
UNUSED = set(
    "register mro elements open input version_info with_traceback add_note format"
    " format_map".split())
OWN_KINDS = (str, int, list, dict, set, bytes, tuple)
MAY_BE_METHODS = METHODS | {"add", "discard"}
MAY_BE_VALUES = set("count index title find get join lower upper split strip copy add".split())
# Where what is not kept may be walked on the spot: the first thing in one of these.
WALKERS = set("list tuple dict sorted sum any all enumerate zip min max".split())
WALKED = set("zip enumerate reversed range".split())
WALKED_METHODS = set("items keys values".split())
KEYWORDS = {"sorted": {"key", "reverse"}, "min": {"key", "default"}, "max": {"key", "default"},
            "sum": {"start"}, "enumerate": {"start"}, "zip": {"strict"}}


def bound_names(tree):
    """All names that a file gives a meaning of its own."""
    found = []
    for node in ast.walk(tree):
        if isinstance(node, (ast.FunctionDef, ast.ClassDef)):
            found.append(node.name)
        elif isinstance(node, ast.arg):
            found.append(node.arg)
        elif isinstance(node, ast.alias):
            found.append(node.asname or node.name)
        elif isinstance(node, ast.ExceptHandler) and node.name:
            found.append(node.name)
        elif isinstance(node, ast.Name) and isinstance(node.ctx, ast.Store):
            found.append(node.id)
    return found


def called_name(node):
    """The plain name that a call calls, None for any other node."""
    return node.func.id if isinstance(node, ast.Call) and isinstance(node.func, ast.Name) else None


def called_method(node):
    """The method that a call calls, None for any other node."""
    return node.func.attr if isinstance(node, ast.Call) and isinstance(node.func, ast.Attribute) else None


def is_walked(node):
    """Whether this is a value that is walked on the spot, not kept."""
    return called_name(node) in WALKED or called_method(node) in WALKED_METHODS


class FormTest(unittest.TestCase):
    @classmethod
    def setUpClass(cls):
        cls.texts = {path.name: path.read_text("utf-8") for path in sorted(PACKAGE.glob("*.py"))}
        cls.trees = {name: ast.parse(text) for name, text in cls.texts.items()}
        cls.own_methods = {node.name for tree in cls.trees.values() for top in tree.body
                           if isinstance(top, ast.ClassDef) for node in top.body
                           if isinstance(node, ast.FunctionDef)}

    def nodes(self, *kinds):
        for name, tree in self.trees.items():
            for node in ast.walk(tree):
                if isinstance(node, kinds):
                    yield f"{name}:{getattr(node, 'lineno', 0)}", node

    def test_files(self):
        """L1, L14."""
        self.assertIn("__init__.py", self.texts)
        for path in PACKAGE.iterdir():
            if path.name != "__pycache__":
                self.assertRegex(path.name, r"\A[a-z0-9_]+\.py\Z")

    def test_signs_and_sizes(self):
        """L10, L14."""
        for name, text in self.texts.items():
            rows = text.split("\n")
            self.assertLessEqual(len(rows), 401, name)
            for k, row in enumerate(rows, start=1):
                self.assertRegex(row, r"\A[ -~]{0,120}\Z", f"{name}:{k}")
        for place, node in self.nodes(ast.FunctionDef):
            self.assertLessEqual(node.end_lineno - node.lineno + 1, 40, place)

    def test_words(self):
        """L17."""
        for name, text in self.texts.items():
            self.assertFalse(WORDS & set(re.findall(r"\w+", text)), name)
            self.assertNotRegex(text, "dataclass|overload|contextmanager")

    def test_imports(self):
        """L2, L16."""
        drawn = {}
        for name, tree in self.trees.items():
            drawn[name] = []
            for node in ast.walk(tree):
                if isinstance(node, ast.ImportFrom):
                    self.assertIn(node, tree.body)
                    self.assertEqual(node.level, 0)
                    package, _, module = node.module.partition(".")
                    self.assertEqual(package, "quiltlaw")
                    defined = [d.name if hasattr(d, "name") else d.targets[0].id
                               for d in self.trees[f"{module}.py"].body
                               if isinstance(d, (ast.FunctionDef, ast.ClassDef, ast.Assign))]
                    for alias in node.names:
                        self.assertIn(alias.name, defined, name)
                    drawn[name].append(f"{module}.py")
        while drawn:
            free = [name for name, others in drawn.items() if not set(others) & set(drawn)]
            self.assertTrue(free, f"a ring of imports among {sorted(drawn)}")
            drawn = {name: others for name, others in drawn.items() if name not in free}

    def test_kinds_of_code(self):
        """L4, L6, L7."""
        for place, node in self.nodes(ast.AST):
            self.assertIsInstance(node, NODES, place)
            self.assertNotIsInstance(node, (ast.Div, ast.MatMult), place)
            self.assertFalse(getattr(node, "decorator_list", None), place)
            if isinstance(node, ast.arguments):
                self.assertFalse(node.vararg or node.kwarg or node.kwonlyargs or node.posonlyargs)
            if isinstance(node, (ast.For, ast.While)):
                self.assertFalse(node.orelse, place)
            if isinstance(node, ast.Try):
                self.assertFalse(node.finalbody, place)
            if isinstance(node, ast.ExceptHandler):
                self.assertIsNotNone(node.type, place)
            if isinstance(node, ast.Assign):
                self.assertEqual(len(node.targets), 1, place)
            if isinstance(node, ast.ListComp):
                self.assertEqual(len(node.generators), 1, place)
                self.assertLessEqual(len(node.generators[0].ifs), 1, place)
            if isinstance(node, ast.Constant):
                self.assertNotIsInstance(node.value, (float, complex, bytes), place)

    def test_module_tops(self):
        """L3, L5, L15."""
        for name, tree in self.trees.items():
            self.assertTrue(ast.get_docstring(tree), name)
            for node in tree.body[1:]:
                self.assertIsInstance(
                    node, (ast.ImportFrom, ast.FunctionDef, ast.ClassDef, ast.Assign), name)
            tops = [n for node in tree.body[1:] for n in bound_names(ast.Module([node], []))
                    if not isinstance(node, (ast.FunctionDef, ast.ClassDef))]
            tops += [node.name for node in tree.body if hasattr(node, "name")]
            self.assertEqual(len(tops), len(set(tops)), name)
        for place, node in self.nodes(ast.ClassDef):
            self.assertLessEqual(len(node.bases), 1, place)
            self.assertFalse(node.keywords, place)
            for member in node.body:
                self.assertTrue(isinstance(member, (ast.FunctionDef, ast.Pass))
                                or member is node.body[0] and ast.get_docstring(node), place)

    def test_names(self):
        """L8, L12, L15, L17."""
        for name, tree in self.trees.items():
            bound = bound_names(tree)
            for word in bound:
                if word not in DUNDERS:
                    self.assertRegex(word, r"\A[A-Za-z][A-Za-z0-9_]*\Z", name)
                    self.assertFalse(hasattr(builtins, word), f"{name}: {word}")
                self.assertNotIn(word, UNUSED, name)
            for node in ast.walk(tree):
                if isinstance(node, ast.Name) and node.id not in bound:
                    self.assertIn(node.id, BUILTINS, f"{name}:{node.lineno}")

    def test_methods(self):
        """L17, L25."""
        for place, node in self.nodes(ast.Attribute):
            self.assertNotIn(node.attr, UNUSED, place)
        for place, node in self.nodes(ast.Call):
            if isinstance(node.func, ast.Attribute):
                self.assertIn(node.func.attr, METHODS | self.own_methods, place)

    def test_own_methods_and_values(self):
        """L18, L26."""
        own_values = {node.attr for _, node in self.nodes(ast.Attribute) if isinstance(node.ctx, ast.Store)}
        self.assertFalse(own_values & self.own_methods)
        for word in own_values | self.own_methods - DUNDERS:
            allowed = MAY_BE_VALUES if word in own_values else MAY_BE_METHODS
            if any(hasattr(kind, word) for kind in OWN_KINDS):
                self.assertIn(word, allowed)
        for place, node in self.nodes(ast.ClassDef):
            methods = [member.name for member in node.body if isinstance(member, ast.FunctionDef)]
            self.assertEqual(len(methods), len(set(methods)), place)

    def test_locals_are_not_called_like_classes_or_imports(self):
        """L15."""
        for name, tree in self.trees.items():
            tops = {alias.name for node in tree.body if isinstance(node, ast.ImportFrom) for alias in node.names}
            tops |= {node.name for node in tree.body if isinstance(node, ast.ClassDef)}
            for node in ast.walk(tree):
                if isinstance(node, (ast.FunctionDef, ast.Lambda)):
                    within = bound_names(node)
                    if isinstance(node, ast.FunctionDef):
                        within.remove(node.name)
                    self.assertFalse(tops & set(within), f"{name}:{node.lineno}")

    def test_texts(self):
        """L7, L27."""
        for place, node in self.nodes(ast.Constant, ast.FormattedValue):
            if isinstance(node, ast.FormattedValue):
                self.assertIsInstance(node.value, ast.Name, place)
                self.assertIsNone(node.format_spec, place)
            elif isinstance(node.value, str):
                self.assertNotIn("%", node.value, place)

    def test_walked_at_once(self):
        """L23."""
        on_the_spot = set()
        for _, node in self.nodes(ast.For, ast.comprehension, ast.Call):
            if isinstance(node, (ast.For, ast.comprehension)):
                on_the_spot.add(node.iter)
            elif called_name(node) in WALKERS:
                on_the_spot.update(node.args if called_name(node) == "zip" else node.args[:1])
            elif called_method(node) == "join" and isinstance(node.func.value, ast.Constant):
                on_the_spot.update(node.args)
        for place, node in self.nodes(ast.Call):
            if is_walked(node):
                self.assertIn(node, on_the_spot, place)

    def test_sets_are_not_kept(self):
        """L24."""
        on_the_spot = set()
        for _, node in self.nodes(ast.Compare, ast.Call):
            if isinstance(node, ast.Compare):
                on_the_spot.update([node.left, *node.comparators])
            elif called_name(node) in ("sorted", "len") and not node.keywords:
                on_the_spot.update(node.args)
        for place, node in self.nodes(ast.Call, ast.Set):
            if called_name(node) in ("set", "frozenset") or isinstance(node, ast.Set):
                self.assertIn(node, on_the_spot, place)

    def test_keywords(self):
        """L22."""
        for place, node in self.nodes(ast.Call):
            for keyword in node.keywords:
                if called_name(node) in BUILTINS:
                    self.assertIn(keyword.arg, KEYWORDS.get(called_name(node), ()), place)
                self.assertNotIn(called_method(node), METHODS, place)

    def test_errors_that_are_taken(self):
        """L19."""
        for place, node in self.nodes(ast.ExceptHandler):
            taken = node.type.elts if isinstance(node.type, ast.Tuple) else [node.type]
            for error in taken:
                self.assertNotIn(error.id, ("Exception", "TypeError"), place)
        for place, node in self.nodes(ast.Raise):
            self.assertIsInstance(node.exc, ast.Call, place)

    def test_is_beside_plain_values_alone(self):
        """L20."""
        for place, node in self.nodes(ast.Compare):
            for op, right in zip(node.ops, node.comparators):
                if isinstance(op, (ast.Is, ast.IsNot)):
                    self.assertIsInstance(right, ast.Constant, place)
                    self.assertIn(right.value, (None, True, False), place)


if __name__ == "__main__":
    unittest.main()
