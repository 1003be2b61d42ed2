"""Those rules of ../shared/LANGUAGE.md that can be seen from single lines or words of the package."""

import ast
import builtins
import re
import unittest
from pathlib import Path

PACKAGE = Path(__file__).resolve().parent.parent / "likehands"
FILES = sorted(PACKAGE.glob("*.py"))

# L8
BUILTINS = set("""
    len range enumerate zip min max sum abs sorted reversed int str bool bytes list tuple dict set frozenset isinstance
    ord repr any all divmod iter next super property staticmethod classmethod
    Exception ValueError TypeError KeyError IndexError LookupError ZeroDivisionError ArithmeticError OverflowError
    RuntimeError NotImplementedError AttributeError StopIteration NotImplemented
""".split())

# L17
WORDS = set("""
    type typing typing_extensions enum Enum IntEnum StrEnum Flag IntFlag Generic Protocol ABC ABCMeta namedtuple
    NamedTuple TypedDict TYPE_CHECKING abstractmethod
""".split())
PARTS = ("dataclass", "overload", "contextmanager")
NEVER = set("register mro elements open input version_info with_traceback add_note".split())

# L25, with sort
METHODS = set("""
    append clear copy count endswith extend find get index insert isalnum isalpha isdigit islower isspace isupper items
    join keys ljust lower lstrip partition pop remove replace reverse rfind rjust rpartition rsplit rstrip setdefault
    split splitlines startswith strip update upper values zfill bit_length add discard sort
""".split())


def own_attributes(tree):
    """The methods and attributes that the classes of a file have."""
    names = {node.attr for node in ast.walk(tree) if isinstance(node, ast.Attribute) and isinstance(node.ctx, ast.Store)}
    for node in ast.walk(tree):
        if isinstance(node, ast.ClassDef):
            names |= {part.name for part in node.body if isinstance(part, ast.FunctionDef)}
    return names


def bound_names(tree):
    """All names that a file gives to something."""
    for node in ast.walk(tree):
        if isinstance(node, ast.Name) and isinstance(node.ctx, ast.Store):
            yield node.id
        elif isinstance(node, (ast.FunctionDef, ast.ClassDef)):
            yield node.name
        elif isinstance(node, ast.arg):
            yield node.arg
        elif isinstance(node, ast.alias):
            yield node.asname or node.name


class Language(unittest.TestCase):
    def each(self):
        for path in FILES:
            with self.subTest(path.name):
                text = path.read_text(encoding="utf-8")
                yield path, text, ast.parse(text)

    def test_files(self):
        for path in PACKAGE.iterdir():
            if path.name != "__pycache__":
                self.assertRegex(path.name, r"^(__init__|[a-z][a-z0-9_]*)\.py$")
        self.assertIn(PACKAGE / "__init__.py", FILES)

    def test_sizes_and_signs(self):
        for path, text, tree in self.each():
            self.assertRegex(text, r"\A[\n -~]*\Z")
            self.assertLessEqual(len(text.splitlines()), 400)
            self.assertLessEqual(max(map(len, text.splitlines())), 120)
            for node in ast.walk(tree):
                if isinstance(node, ast.FunctionDef):
                    self.assertLessEqual(node.end_lineno - node.lineno + 1, 40, node.name)

    def test_words(self):
        for path, text, tree in self.each():
            self.assertEqual(WORDS & set(re.findall(r"\w+", text)), set())
            for part in PARTS:
                self.assertNotIn(part, text)

    def test_imports(self):
        for path, text, tree in self.each():
            for node in ast.walk(tree):
                self.assertNotIsInstance(node, ast.Import)
                if isinstance(node, ast.ImportFrom):
                    self.assertEqual(node.level, 0)
                    self.assertRegex(node.module, r"^likehands\.[a-z]+$")
                    self.assertIn(node, tree.body)

    def test_names(self):
        for path, text, tree in self.each():
            for name in bound_names(tree):
                # L5 lets classes have more of these; here one has this one alone.
                if name == "__init__":
                    continue
                self.assertRegex(name, r"^[A-Za-z][A-Za-z0-9_]*$")
                self.assertFalse(hasattr(builtins, name), name)
                self.assertNotIn(name, NEVER)
            top = [name for node in tree.body for name in top_names(node)]
            self.assertEqual(len(top), len(set(top)))

    def test_names_of_imports_and_classes(self):
        # L15: no parameter, local variable or nested function has such a name.
        for path, text, tree in self.each():
            taken = {name for node in tree.body if isinstance(node, (ast.ImportFrom, ast.ClassDef)) for name in top_names(node)}
            for function in ast.walk(tree):
                if isinstance(function, (ast.FunctionDef, ast.Lambda)):
                    inner = {name for part in ast.iter_child_nodes(function) for name in bound_names(part)}
                    self.assertEqual(inner & taken, set())

    def test_imported_names_stand_in_the_very_file(self):
        # L16: no two files import from each other, neither through other files.
        imports = {}
        for path, text, tree in self.each():
            imports[path.stem] = set()
            for node in tree.body:
                if isinstance(node, ast.ImportFrom):
                    other = node.module.split(".")[1]
                    imports[path.stem].add(other)
                    there = ast.parse((PACKAGE / (other + ".py")).read_text(encoding="utf-8")).body
                    defined = {name for part in there if not isinstance(part, ast.ImportFrom) for name in top_names(part)}
                    self.assertLessEqual(set(top_names(node)), defined)
        while imports:
            free = [name for name in imports if not imports[name] & set(imports)]
            self.assertNotEqual(free, [])
            for name in free:
                del imports[name]

    def test_sets(self):
        # L24, as far as it is needed here: a set stands directly in sorted or len, or behind in.
        for path, text, tree in self.each():
            allowed = []
            for node in ast.walk(tree):
                if isinstance(node, ast.Call) and isinstance(node.func, ast.Name) and node.func.id in ("sorted", "len"):
                    allowed += node.args
                if isinstance(node, ast.Compare) and isinstance(node.ops[0], (ast.In, ast.NotIn)):
                    allowed += node.comparators
            for node in ast.walk(tree):
                called = node.func if isinstance(node, ast.Call) else None
                if isinstance(node, (ast.Set, ast.SetComp)) or isinstance(called, ast.Name) and called.id == "set":
                    self.assertIn(node, allowed)

    def test_iterated_at_once(self):
        # L23: these are not stored or returned.
        for path, text, tree in self.each():
            for node in ast.walk(tree):
                if isinstance(node, (ast.Assign, ast.Return)) and isinstance(node.value, ast.Call):
                    called = node.value.func
                    name = called.id if isinstance(called, ast.Name) else called.attr
                    self.assertNotIn(name, ("zip", "enumerate", "reversed", "range", "items", "keys", "values"))

    def test_builtins_and_methods(self):
        own = set()
        for path, text, tree in self.each():
            own |= own_attributes(tree)
        for path, text, tree in self.each():
            bound = set(bound_names(tree))
            for node in ast.walk(tree):
                if isinstance(node, ast.Name) and node.id not in bound:
                    self.assertIn(node.id, BUILTINS)
                if isinstance(node, ast.Attribute):
                    self.assertIn(node.attr, METHODS | own)

    def test_signs_and_statements(self):
        for path, text, tree in self.each():
            for node in ast.walk(tree):
                self.assertNotIsInstance(node, (ast.Global, ast.AsyncFunctionDef, ast.Div))
                if isinstance(node, ast.Constant):
                    self.assertNotIsInstance(node.value, (float, complex))
                    self.assertNotIn("%", node.value if isinstance(node.value, str) else "")
                if isinstance(node, ast.Compare):
                    for sign, right in zip(node.ops, node.comparators):
                        if isinstance(sign, (ast.Is, ast.IsNot)):
                            self.assertIn(getattr(right, "value", "no"), (None, True, False))


def top_names(node):
    if isinstance(node, (ast.FunctionDef, ast.ClassDef)):
        return [node.name]
    if isinstance(node, ast.Assign):
        return [target.id for target in node.targets]
    if isinstance(node, ast.ImportFrom):
        return [alias.asname or alias.name for alias in node.names]
    return []


if __name__ == "__main__":
    unittest.main()
