"""The package keeps to ../shared/LANGUAGE.md, as far as its rules can be seen from a file's text."""

import ast
import builtins
import pathlib
import re
import unittest

PACKAGE = pathlib.Path(__file__).resolve().parent.parent / "pivotfold"

NODES = {
    # L3 to L6: what stands in a file.
    "Module", "ImportFrom", "alias", "FunctionDef", "ClassDef", "arguments", "arg", "Assign", "AugAssign",
    "If", "While", "For", "Return", "Break", "Continue", "Pass", "Raise", "Try", "ExceptHandler", "Expr",
    # L7: values and expressions.
    "Constant", "List", "Tuple", "Dict", "Name", "Load", "Store", "Attribute", "Subscript", "Slice", "Call",
    "keyword", "Lambda", "IfExp", "ListComp", "comprehension", "JoinedStr", "FormattedValue",
    "BinOp", "Add", "Sub", "Mult", "FloorDiv", "Mod", "Pow", "BitAnd", "BitOr", "BitXor", "LShift", "RShift",
    "UnaryOp", "Not", "USub", "UAdd", "Invert", "BoolOp", "And", "Or",
    "Compare", "Eq", "NotEq", "Lt", "LtE", "Gt", "GtE", "Is", "IsNot", "In", "NotIn",
}
OWN_NAMES = set(
    "len range enumerate zip min max sum abs sorted reversed int str bool list tuple dict set frozenset "
    "isinstance ord repr any all divmod Exception ValueError TypeError KeyError IndexError LookupError "
    "ZeroDivisionError ArithmeticError OverflowError RuntimeError NotImplementedError AttributeError "
    "StopIteration".split()
)
METHODS = set(
    "append clear copy count endswith extend find get index insert isalnum isalpha isdigit islower isspace "
    "isupper items join keys ljust lower lstrip partition pop remove replace reverse rfind rjust rpartition "
    "rsplit rstrip setdefault split splitlines startswith strip update upper values zfill bit_length".split()
)
# L26: what an object's values may be called, though Python's own values have it too.
SHARED_VALUES = set("count index title find get join lower upper split strip copy add".split())
PYTHONS_OWN = set().union(*[dir(kind) for kind in (str, int, list, tuple, dict, set, bytes)])
DUNDERS = {"__init__", "__eq__", "__repr__", "__str__", "__len__"}
UNUSED = set("register mro elements open input version_info with_traceback add_note".split())
WORDS = re.compile(
    r"\b(type|typing|typing_extensions|enum|Enum|IntEnum|StrEnum|Flag|IntFlag|Generic|Protocol|ABC|ABCMeta|"
    r"namedtuple|NamedTuple|TypedDict|TYPE_CHECKING|abstractmethod)\b|dataclass|overload|contextmanager"
)
PLAIN_NAME = re.compile(r"[A-Za-z][A-Za-z0-9_]*\Z")
KEYWORDS = {
    "sorted": {"key", "reverse"}, "min": {"key", "default"}, "max": {"key", "default"},
    "sum": {"start"}, "enumerate": {"start"}, "zip": {"strict"},
}


def files():
    return sorted(PACKAGE.glob("*.py"))


def is_docstring(node):
    return isinstance(node, ast.Expr) and isinstance(node.value, ast.Constant) and isinstance(node.value.value, str)


def bound_names(tree):
    for node in ast.walk(tree):
        if isinstance(node, ast.Name) and isinstance(node.ctx, ast.Store):
            yield node.lineno, node.id
        elif isinstance(node, ast.arg):
            yield node.lineno, node.arg
        elif isinstance(node, (ast.FunctionDef, ast.ClassDef)):
            yield node.lineno, node.name
        elif isinstance(node, ast.ExceptHandler) and node.name:
            yield node.lineno, node.name


def defined_at_top(tree):
    names = [node.name for node in tree.body if isinstance(node, (ast.FunctionDef, ast.ClassDef))]
    for node in tree.body:
        if isinstance(node, ast.Assign):
            names += [target.id for target in node.targets if isinstance(target, ast.Name)]
    return names


class LanguageTest(unittest.TestCase):
    def setUp(self):
        self.texts = {path.stem: path.read_text(encoding="utf-8") for path in files()}
        self.trees = {stem: ast.parse(text) for stem, text in self.texts.items()}

    def each_node(self):
        for stem, tree in self.trees.items():
            for node in ast.walk(tree):
                yield stem, node

    def at(self, stem, node):
        return f"{stem}.py:{getattr(node, 'lineno', 0)}"

    def test_l1_l14_files(self):
        self.assertIn("__init__", self.trees)
        for path in PACKAGE.iterdir():
            if path.name != "__pycache__":
                self.assertRegex(path.name, r"\A(__init__|__main__|[a-z][a-z0-9_]*)\.py\Z")
                self.assertFalse(path.stem[0] != "_" and hasattr(builtins, path.stem), path.name)

    def test_l10_l14_l17_texts(self):
        for stem, text in self.texts.items():
            self.assertRegex(text, r"\A[ -~\n]*\Z", stem)
            self.assertLessEqual(len(text.splitlines()), 400, stem)
            self.assertLessEqual(max(map(len, text.splitlines()), default=0), 120, stem)
            self.assertIsNone(WORDS.search(text), stem)

    def test_l2_l16_imports(self):
        drawn = {}
        for stem, tree in self.trees.items():
            rows = [node for node in ast.walk(tree) if isinstance(node, (ast.Import, ast.ImportFrom))]
            self.assertEqual([node for node in tree.body if node in rows], rows, stem)
            for node in rows:
                self.assertIsInstance(node, ast.ImportFrom, self.at(stem, node))
                package, _, source = node.module.partition(".")
                self.assertEqual((package, node.level), ("pivotfold", 0), self.at(stem, node))
                for alias in node.names:
                    self.assertIn(alias.name, defined_at_top(self.trees[source]), self.at(stem, node))
                drawn.setdefault(stem, []).append(source)
        for stem in drawn:
            ahead = list(drawn[stem])
            seen = {}
            while ahead:
                source = ahead.pop()
                self.assertNotEqual(source, stem)
                if source not in seen:
                    seen[source] = True
                    ahead += drawn.get(source, [])

    def test_l3_l15_tops(self):
        for stem, tree in self.trees.items():
            self.assertTrue(is_docstring(tree.body[0]), stem)
            for node in tree.body[1:]:
                self.assertIsInstance(
                    node, (ast.ImportFrom, ast.FunctionDef, ast.ClassDef, ast.Assign), self.at(stem, node))
            names = defined_at_top(tree)
            self.assertEqual(len(names), len(set(names)), stem)

    def test_l4_l6_l7_nodes(self):
        for stem, node in self.each_node():
            self.assertIn(type(node).__name__, NODES, self.at(stem, node))
            if isinstance(node, ast.Expr) and node is not self.trees[stem].body[0]:
                self.assertIsInstance(node.value, ast.Call, self.at(stem, node))
            if isinstance(node, ast.Assign):
                self.assertEqual(len(node.targets), 1, self.at(stem, node))
            if isinstance(node, (ast.For, ast.While)):
                self.assertEqual(node.orelse, [], self.at(stem, node))
            if isinstance(node, ast.Try):
                self.assertEqual(node.finalbody, [], self.at(stem, node))
            if isinstance(node, ast.ListComp):
                self.assertEqual(len(node.generators), 1, self.at(stem, node))
                self.assertLessEqual(len(node.generators[0].ifs), 1, self.at(stem, node))
            if isinstance(node, ast.Constant):
                self.assertIsInstance(node.value, (int, str, bool, type(None)), self.at(stem, node))
            if isinstance(node, ast.FormattedValue):
                self.assertIsInstance(node.value, ast.Name, self.at(stem, node))
                self.assertIsNone(node.format_spec, self.at(stem, node))

    def test_l4_l5_l10_functions_and_classes(self):
        for stem, node in self.each_node():
            if isinstance(node, (ast.FunctionDef, ast.Lambda)):
                args = node.args
                self.assertFalse(args.vararg or args.kwarg or args.kwonlyargs or args.posonlyargs,
                                 self.at(stem, node))
            if isinstance(node, (ast.FunctionDef, ast.ClassDef)):
                self.assertEqual(node.decorator_list, [], self.at(stem, node))
            if isinstance(node, ast.FunctionDef):
                self.assertLessEqual(node.end_lineno - node.lineno + 1, 40, self.at(stem, node))
            if isinstance(node, ast.ClassDef):
                self.assertLessEqual(len(node.bases), 1, self.at(stem, node))
                for part in node.body:
                    self.assertIsInstance(part, (ast.FunctionDef, ast.Pass), self.at(stem, part))

    def test_l8_l12_l15_l17_names(self):
        for stem, tree in self.trees.items():
            for line, name in bound_names(tree):
                if name not in DUNDERS:
                    self.assertRegex(name, PLAIN_NAME, f"{stem}.py:{line}")
                    self.assertFalse(hasattr(builtins, name), f"{stem}.py:{line} {name}")
                    self.assertNotIn(name, UNUSED, f"{stem}.py:{line}")
        for stem, node in self.each_node():
            if isinstance(node, ast.Name) and hasattr(builtins, node.id):
                self.assertIn(node.id, OWN_NAMES, self.at(stem, node))

    def test_l15_no_local_is_called_like_a_class_or_an_import(self):
        for stem, tree in self.trees.items():
            taken = {node.name for node in tree.body if isinstance(node, ast.ClassDef)}
            for node in tree.body:
                if isinstance(node, ast.ImportFrom):
                    taken |= {alias.asname or alias.name for alias in node.names}
            for line, name in bound_names(tree):
                if name in taken:
                    classes = [node for node in tree.body if isinstance(node, ast.ClassDef) and node.lineno == line]
                    self.assertTrue(classes, f"{stem}.py:{line} {name}")

    def test_l17_l25_l26_attributes(self):
        own = {node.name for _, node in self.each_node() if isinstance(node, ast.FunctionDef)}
        for stem, node in self.each_node():
            if isinstance(node, ast.Attribute):
                self.assertNotIn(node.attr, UNUSED, self.at(stem, node))
            if isinstance(node, ast.Call) and isinstance(node.func, ast.Attribute):
                self.assertIn(node.func.attr, METHODS | own, self.at(stem, node))

    def test_l18_l26_l28_methods_and_values_of_objects(self):
        methods = {}
        values = {}
        for stem, node in self.each_node():
            if isinstance(node, ast.ClassDef):
                names = [part.name for part in node.body if isinstance(part, ast.FunctionDef)]
                self.assertEqual(len(names), len(set(names)), self.at(stem, node))
                methods.update({name: self.at(stem, node) for name in names})
            if isinstance(node, ast.Attribute) and isinstance(node.ctx, ast.Store):
                self.assertEqual(ast.unparse(node.value), "self", self.at(stem, node))
                values[node.attr] = self.at(stem, node)
            if isinstance(node, ast.FunctionDef) and node.name == "__init__":
                self.assertEqual([each for each in ast.walk(node) if isinstance(each, ast.Return)], [])
        self.assertEqual(sorted(set(methods) & set(values)), [])
        for name, place in methods.items():
            self.assertTrue(name not in PYTHONS_OWN or name in METHODS | {"add", "discard", "__init__"}, f"{place} {name}")
        for name, place in values.items():
            self.assertTrue(name not in PYTHONS_OWN or name in SHARED_VALUES, f"{place} {name}")

    def test_l6_one_name_a_target(self):
        for stem, node in self.each_node():
            if isinstance(node, ast.Assign):
                self.assertNotIsInstance(node.targets[0], (ast.Tuple, ast.List), self.at(stem, node))

    def test_l19_errors(self):
        for stem, node in self.each_node():
            if isinstance(node, ast.ExceptHandler):
                self.assertIsNotNone(node.type, self.at(stem, node))
                caught = ast.unparse(node.type)
                self.assertNotIn(caught, ("Exception", "TypeError"), self.at(stem, node))
            if isinstance(node, ast.Raise):
                self.assertIsInstance(node.exc, ast.Call, self.at(stem, node))

    def test_l20_is(self):
        for stem, node in self.each_node():
            if isinstance(node, ast.Compare):
                for op, right in zip(node.ops, node.comparators):
                    if isinstance(op, (ast.Is, ast.IsNot)):
                        self.assertIn(ast.unparse(right), ("None", "True", "False"), self.at(stem, node))

    def test_l22_l23_l24_calls(self):
        for stem, node in self.each_node():
            for child in ast.iter_child_nodes(node):
                if isinstance(child, ast.Call) and isinstance(child.func, ast.Name) and child.func.id == "set":
                    beside = isinstance(node, (ast.Compare, ast.BinOp))
                    within = isinstance(node, ast.Call) and ast.unparse(node.func) in ("len", "sorted")
                    self.assertTrue(beside or within, self.at(stem, child))
            if isinstance(node, ast.Call) and isinstance(node.func, ast.Name) and node.func.id in OWN_NAMES:
                allowed = KEYWORDS.get(node.func.id, set())
                self.assertLessEqual({word.arg for word in node.keywords}, allowed, self.at(stem, node))
            if isinstance(node, ast.Assign) and isinstance(node.value, ast.Call):
                kept = ast.unparse(node.value.func)
                self.assertNotIn(kept, ("zip", "enumerate", "reversed", "range", "set"), self.at(stem, node))

    def test_l27_numbers_and_texts(self):
        for stem, node in self.each_node():
            if isinstance(node, ast.Constant) and isinstance(node.value, str):
                self.assertNotIn("%", node.value, self.at(stem, node))
            if isinstance(node, ast.BinOp) and isinstance(node.op, ast.Pow):
                self.assertIsInstance(node.right, ast.Constant, self.at(stem, node))


if __name__ == "__main__":
    unittest.main()
