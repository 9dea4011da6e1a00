"""Rules that every file of the package keeps, as far as a small test can see them; with them point 1."""

import ast
import builtins
import unittest
import warnings
from pathlib import Path

PACKAGE = Path(__file__).resolve().parent.parent / "lentpages"
LIBRARY = {
    "heapq": {"heappush", "heappop", "heapify", "heapreplace", "heappushpop"},
    "math": {"gcd", "lcm", "isqrt", "comb", "perm", "factorial"},
    "itertools": {
        "product", "combinations", "permutations", "chain", "accumulate", "pairwise", "islice", "zip_longest",
    },
    "collections": {"defaultdict", "deque"},
}
BUILTINS = set("""
    len range enumerate zip min max sum abs sorted reversed int str bool bytes list tuple dict set frozenset isinstance
    ord repr any all divmod pow getattr hasattr setattr iter next map type super property staticmethod classmethod
    Exception ValueError TypeError KeyError IndexError LookupError ZeroDivisionError ArithmeticError OverflowError
    RuntimeError NotImplementedError AttributeError StopIteration NotImplemented
""".split())

# Names that stand nowhere, and words that stand in comments and docstrings only.
BARRED = set("""
    register mro elements open input law version_info with_traceback add_note attrgetter breakpoint compile delattr dir
    eval exec exit gc globals help id importlib locals methodcaller os quit vars sys
""".split())


def sources():
    """The path, the text and the syntax tree of each file of the package."""
    for path in sorted(PACKAGE.rglob("*.py")):
        text = path.read_text(encoding="utf-8")
        yield path, text, ast.parse(text)


def imported(tree):
    """The pairs (module, name) that a file imports."""
    pairs = []
    for node in ast.walk(tree):
        if isinstance(node, ast.Import):
            pairs.extend([(alias.name, None) for alias in node.names])
        elif isinstance(node, ast.ImportFrom):
            pairs.extend([("." * node.level + (node.module or ""), alias.name) for alias in node.names])
    return pairs


class LanguageTest(unittest.TestCase):
    def test_the_folder_contains_nothing_but_files_of_python(self):
        found = [path for path in PACKAGE.rglob("*") if path.is_file() and "__pycache__" not in path.parts]
        self.assertIn(PACKAGE / "__init__.py", found)
        for path in found:
            self.assertRegex(path.name, r"^[a-z0-9_]+\.py$")

    def test_sizes_and_characters(self):
        for path, text, tree in sources():
            with self.subTest(file=path.name):
                lines = text.split("\n")
                self.assertLess(len(lines) - 1, 400)
                self.assertLessEqual(max(map(len, lines)), 120)
                self.assertTrue(all(letter == "\n" or " " <= letter <= "~" for letter in text))
                for node in ast.walk(tree):
                    if isinstance(node, ast.FunctionDef):
                        self.assertLessEqual(node.end_lineno - node.lineno + 1, 40, node.name)

    def test_imports_come_from_the_files_that_define_the_names(self):
        defined = {}
        for path, _, tree in sources():
            module = "lentpages." + path.stem
            defined[module] = {getattr(node, "name", None) for node in tree.body}
            defined[module] |= {t.id for node in tree.body if isinstance(node, ast.Assign) for t in node.targets}
        for path, _, tree in sources():
            for module, name in imported(tree):
                with self.subTest(file=path.name, module=module, name=name):
                    self.assertIn(name, defined.get(module, LIBRARY.get(module, ())))

    def test_no_two_files_import_from_each_other(self):
        imports = {"lentpages." + path.stem: {pair[0] for pair in imported(tree)} for path, _, tree in sources()}
        done = set()
        while len(done) < len(imports):
            ready = {name for name in imports if name not in done and not imports[name] & imports.keys() - done}
            self.assertTrue(ready, "these import from each other: " + str(sorted(imports.keys() - done)))
            done |= ready

    def test_only_some_builtins(self):
        names = set(dir(builtins))
        for path, _, tree in sources():
            for node in ast.walk(tree):
                if isinstance(node, ast.Name) and node.id in names:
                    self.assertIn(node.id, BUILTINS, f"{path.name}, line {node.lineno}")
                if isinstance(node, (ast.FunctionDef, ast.ClassDef)):
                    self.assertNotIn(node.name, BUILTINS, path.name)
                if isinstance(node, ast.arg):
                    self.assertNotIn(node.arg, names, f"{path.name}, line {node.lineno}")

    def test_barred_names(self):
        for path, _, tree in sources():
            for node in ast.walk(tree):
                for field in ("id", "attr", "arg", "name"):
                    name = getattr(node, field, None) or ""
                    with self.subTest(file=path.name, name=name):
                        self.assertNotIn(name, BARRED)
                        self.assertNotRegex(name, r"^_(wall|pe_|dcw_|enum_|cm_|law_|lay_|stub_|sre|cold|outside)")

    def test_no_name_is_a_method_and_an_attribute_of_one_class(self):
        for path, _, tree in sources():
            for node in [node for node in tree.body if isinstance(node, ast.ClassDef)]:
                methods = {part.name for part in node.body if isinstance(part, ast.FunctionDef)}
                stored = {
                    part.attr for part in ast.walk(node)
                    if isinstance(part, ast.Attribute) and isinstance(part.ctx, ast.Store)
                }
                self.assertFalse(methods & stored, (path.name, node.name))

    def test_each_import_is_used(self):
        for path, _, tree in sources():
            used = {node.id for node in ast.walk(tree) if isinstance(node, ast.Name)}
            self.assertLessEqual({name for _, name in imported(tree)}, used, path.name)

    def test_no_floats_and_no_decorated_classes(self):
        for path, _, tree in sources():
            for node in ast.walk(tree):
                with self.subTest(file=path.name, line=getattr(node, "lineno", 0)):
                    self.assertNotIsInstance(node, (ast.Div, ast.AsyncFunctionDef, ast.Await))
                    self.assertFalse(isinstance(node, ast.Constant) and isinstance(node.value, (float, complex)))
                    self.assertFalse(isinstance(node, ast.ClassDef) and node.decorator_list)

    def test_python_gives_no_warning(self):
        with warnings.catch_warnings():
            warnings.simplefilter("error")
            for path, text, _ in sources():
                compile(text, str(path), "exec")


if __name__ == "__main__":
    unittest.main()
