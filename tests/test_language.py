"""Rules of LANGUAGE.md that can be looked up in the package's files by their form alone."""

import ast
import builtins
import pathlib
import re
import unittest

PACKAGE = pathlib.Path(__file__).resolve().parent.parent / "limbtables"
OWN_NAMES = set("""len range enumerate zip min max sum abs sorted reversed int str bool bytes list tuple dict set
    frozenset isinstance ord repr any all divmod Exception ValueError TypeError KeyError IndexError LookupError
    ZeroDivisionError ArithmeticError OverflowError RuntimeError NotImplementedError AttributeError
    StopIteration""".split())
FORBIDDEN = (ast.With, ast.Match, ast.Global, ast.Nonlocal, ast.Yield, ast.YieldFrom, ast.AsyncFunctionDef, ast.Await,
             ast.GeneratorExp, ast.NamedExpr, ast.Div, ast.MatMult, ast.AnnAssign, ast.Import)
WORDS = """type typing typing_extensions enum Enum IntEnum StrEnum Flag IntFlag Generic Protocol ABC ABCMeta namedtuple
    NamedTuple TypedDict TYPE_CHECKING abstractmethod""".split()
PARTS_OF_WORDS = ["dataclass", "overload", "contextmanager"]
UNUSED = set("""register mro elements open input version_info with_traceback add_note attrgetter breakpoint builtins
    compile copyright credits delattr dir eval exec exit gc getattr globals hasattr help id importlib license locals
    methodcaller os quit setattr super type vars sys""".split())
UNDERSCORED = {"__init__", "__eq__", "__repr__", "__str__", "__len__"}


def files():
    return sorted(PACKAGE.glob("*.py"))


def nodes():
    for path in files():
        for node in ast.walk(ast.parse(path.read_text(encoding="utf-8"))):
            yield path.name, node


def bound_names(node):
    """The names that a node gives, asks or takes."""
    if isinstance(node, ast.Name):
        return [node.id]
    if isinstance(node, (ast.FunctionDef, ast.ClassDef)):
        return [node.name]
    if isinstance(node, ast.arg):
        return [node.arg]
    if isinstance(node, ast.Attribute):
        return [node.attr]
    return []


class Language(unittest.TestCase):
    def test_files(self):
        found = [path for path in PACKAGE.iterdir() if path.name != "__pycache__"]
        self.assertEqual(sorted(found), files())
        self.assertIn(PACKAGE / "__init__.py", found)
        for path in found:
            self.assertRegex(path.name, r"^[a-z0-9_]+\.py$")

    def test_sizes(self):
        for path in files():
            rows = path.read_text(encoding="utf-8").split("\n")
            self.assertLessEqual(len(rows), 400, path.name)
            for row in rows:
                self.assertLessEqual(len(row), 120, path.name)
        for name, node in nodes():
            if isinstance(node, ast.FunctionDef):
                self.assertLessEqual(node.end_lineno - node.lineno + 1, 40, f"{name} {node.name}")

    def test_signs_and_words(self):
        for path in files():
            text = path.read_text(encoding="utf-8")
            self.assertTrue(all(" " <= sign <= "~" or sign == "\n" for sign in text), path.name)
            for word in WORDS:
                self.assertIsNone(re.search(rf"\b{word}\b", text), f"{path.name} {word}")
            for part in PARTS_OF_WORDS:
                self.assertNotIn(part, text, path.name)

    def test_forms(self):
        for name, node in nodes():
            self.assertNotIsInstance(node, FORBIDDEN, name)
            if isinstance(node, (ast.For, ast.While)):
                self.assertEqual(node.orelse, [], name)
            if isinstance(node, (ast.FunctionDef, ast.ClassDef)):
                self.assertEqual(node.decorator_list, [], name)
            if isinstance(node, ast.arguments):
                self.assertEqual((node.vararg, node.kwarg, node.posonlyargs), (None, None, []), name)
            if isinstance(node, ast.Constant):
                self.assertNotIsInstance(node.value, (float, complex), name)
                if isinstance(node.value, str):
                    self.assertNotIn("%", node.value, name)

    def test_is_stands_beside_three_words_alone(self):
        for name, node in nodes():
            if isinstance(node, ast.Compare) and any(isinstance(op, (ast.Is, ast.IsNot)) for op in node.ops):
                last = node.comparators[-1]
                self.assertTrue(isinstance(last, ast.Constant) and last.value in (None, True, False), name)

    def test_imports(self):
        for name, node in nodes():
            if isinstance(node, ast.ImportFrom):
                self.assertEqual(node.level, 0, name)
                self.assertRegex(node.module, r"^limbtables\.[a-z]+$")
                self.assertNotIn("*", [drawn.name for drawn in node.names])

    def test_names(self):
        for name, node in nodes():
            for word in bound_names(node):
                if word in UNDERSCORED:
                    continue
                self.assertRegex(word, r"^[A-Za-z][A-Za-z0-9_]*$", name)
                self.assertNotIn(word, UNUSED, name)
                if isinstance(node, ast.Name) and isinstance(node.ctx, ast.Load) and hasattr(builtins, word):
                    self.assertIn(word, OWN_NAMES, name)
                elif not isinstance(node, ast.Attribute) and not isinstance(getattr(node, "ctx", None), ast.Load):
                    self.assertFalse(hasattr(builtins, word), f"{name} {word}")

    def test_names_drawn_in_are_given_nothing_else(self):
        for path in files():
            tree = ast.parse(path.read_text(encoding="utf-8"))
            taken = {drawn.name for node in tree.body if isinstance(node, ast.ImportFrom) for drawn in node.names}
            taken |= {node.name for node in tree.body if isinstance(node, ast.ClassDef)}
            for node in ast.walk(tree):
                if isinstance(node, ast.arg):
                    self.assertNotIn(node.arg, taken, path.name)
                if isinstance(node, ast.Name) and isinstance(node.ctx, ast.Store):
                    self.assertNotIn(node.id, taken, path.name)

    def test_names_are_drawn_from_where_they_are_defined(self):
        drawn_from = {}
        for path in files():
            tree = ast.parse(path.read_text(encoding="utf-8"))
            rows = [node for node in tree.body if isinstance(node, ast.ImportFrom)]
            drawn_from[path.stem] = [node.module.split(".")[1] for node in rows]
            for node in rows:
                source = ast.parse((PACKAGE / f"{node.module.split('.')[1]}.py").read_text(encoding="utf-8"))
                defined = {thing.name for thing in source.body if isinstance(thing, (ast.FunctionDef, ast.ClassDef))}
                self.assertLessEqual({drawn.name for drawn in node.names}, defined, path.name)
        while drawn_from:
            free = [name for name, others in drawn_from.items() if not any(other in drawn_from for other in others)]
            self.assertTrue(free, f"files that draw from one another: {sorted(drawn_from)}")
            for name in free:
                del drawn_from[name]

    def test_no_name_is_a_method_and_a_value(self):
        methods, given = set(), set()
        for _, node in nodes():
            if isinstance(node, ast.ClassDef):
                methods |= {thing.name for thing in node.body if isinstance(thing, ast.FunctionDef)}
            if isinstance(node, ast.Attribute) and isinstance(node.ctx, ast.Store):
                given.add(node.attr)
        self.assertFalse(methods & given)
        self.assertEqual(given, {"prime", "many", "arrows", "ground", "drawing", "sizes", "tables", "kept",
                                 "kept_turned"})

    def test_walked_at_once(self):
        for name, node in nodes():
            if isinstance(node, (ast.Assign, ast.Return)) and isinstance(node.value, ast.Call):
                called = node.value.func
                word = called.id if isinstance(called, ast.Name) else getattr(called, "attr", "")
                self.assertNotIn(word, ("zip", "enumerate", "reversed", "range", "items", "keys", "values"), name)


if __name__ == "__main__":
    unittest.main()
