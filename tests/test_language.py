"""Those rules of the language of the package that a short look at its files can tell."""

import ast
import builtins
import pathlib
import re
import unittest

FOLDER = pathlib.Path(__file__).resolve().parent.parent / "foldlook"
FILES = sorted(FOLDER.glob("**/*.py"))
LIBRARY = {
    "heapq": {"heappush", "heappop", "heapify", "heapreplace", "heappushpop"},
    "math": {"gcd", "lcm", "isqrt", "comb", "perm", "factorial"},
    "itertools": {"product", "combinations", "permutations"},
}
DOUBLE = {"__init__", "__eq__", "__repr__", "__str__", "__len__", "__enter__", "__exit__", "__call__", "__iter__"}
# What doctest prints is kept as `_`.
BUILTINS = set(dir(builtins)) - {"_"}
DECORATORS = {"property", "staticmethod", "classmethod"}
BARRED = (
    "typing typing_extensions enum Enum IntEnum StrEnum Flag IntFlag Generic Protocol ABC ABCMeta namedtuple "
    "NamedTuple TypedDict TYPE_CHECKING abstractmethod register mro elements open input eval exec getattr setattr "
    "hasattr delattr globals locals vars dir id compile print"
).split()


def tree(file):
    return ast.parse(file.read_text(encoding="ascii"))


def imported(file):
    return [part for part in ast.walk(tree(file)) if isinstance(part, (ast.Import, ast.ImportFrom))]


class LanguageTest(unittest.TestCase):
    def test_the_folder_holds_python_files_only(self):
        self.assertIn(FOLDER / "__init__.py", FILES)
        for found in FOLDER.glob("**/*"):
            if "__pycache__" not in found.parts:
                self.assertTrue(found.is_dir() or re.fullmatch(r"[a-z0-9_]+\.py", found.name), found)

    def test_characters_and_sizes(self):
        for file in FILES:
            rows = file.read_bytes().decode("ascii").split("\n")
            self.assertLessEqual(len(rows), 400, file)
            for row in rows:
                self.assertLessEqual(len(row), 120, (file, row))
                self.assertTrue(all(" " <= sign <= "~" for sign in row), (file, row))

    def test_functions_are_short_and_bear_no_other_decorators(self):
        for file in FILES:
            for part in ast.walk(tree(file)):
                if isinstance(part, ast.FunctionDef):
                    self.assertLessEqual(part.end_lineno - part.lineno + 1, 40, part.name)
                    self.assertLessEqual({ast.unparse(found) for found in part.decorator_list}, DECORATORS, part.name)
                    self.assertTrue(not part.name.startswith("__") or part.name in DOUBLE, part.name)

    def test_imports(self):
        for file in FILES:
            for part in imported(file):
                self.assertIsInstance(part, ast.ImportFrom)
                self.assertEqual(part.level, 0)
                self.assertTrue(all(name.asname is None and name.name != "*" for name in part.names))
                if part.module in LIBRARY:
                    self.assertLessEqual({name.name for name in part.names}, LIBRARY[part.module])
                else:
                    self.assertTrue(part.module.startswith("foldlook."), part.module)

    def test_names_are_imported_from_the_file_that_defines_them(self):
        for file in FILES:
            for part in imported(file):
                if part.module not in LIBRARY:
                    source = tree(FOLDER.parent / (part.module.replace(".", "/") + ".py"))
                    defined = {found.name for found in source.body if hasattr(found, "name")}
                    for found in source.body:
                        if isinstance(found, ast.Assign):
                            defined |= {target.id for target in found.targets}
                    self.assertLessEqual({name.name for name in part.names}, defined)

    def test_no_two_files_import_from_each_other(self):
        left = {file.stem: {part.module.split(".")[-1] for part in imported(file)} for file in FILES}
        while left:
            free = [name for name, needs in left.items() if not needs & set(left)]
            self.assertNotEqual(free, [], left)
            for name in free:
                del left[name]

    def test_no_local_name_is_that_of_a_class_an_import_or_a_builtin(self):
        for file in FILES:
            taken = {name.name for part in imported(file) for name in part.names}
            taken |= {part.name for part in tree(file).body if isinstance(part, ast.ClassDef)}
            for part in ast.walk(tree(file)):
                if isinstance(part, ast.arg):
                    self.assertFalse(part.arg in taken or part.arg in BUILTINS, (file, part.arg))
                if isinstance(part, ast.Name) and isinstance(part.ctx, ast.Store):
                    self.assertFalse(part.id in taken or part.id in BUILTINS, (file, part.id))

    def test_no_name_is_a_method_and_an_attribute(self):
        classes = [part for file in FILES for part in ast.walk(tree(file)) if isinstance(part, ast.ClassDef)]
        methods = [part.name for kind in classes for part in kind.body if isinstance(part, ast.FunctionDef)]
        stored = [part.attr for file in FILES for part in ast.walk(tree(file))
                  if isinstance(part, ast.Attribute) and isinstance(part.ctx, ast.Store)]
        self.assertEqual(set(methods) & set(stored), set())
        self.assertEqual(set(methods) & set(dir(str) + dir(list) + dir(dict) + dir(int) + dir(set)) - DOUBLE, set())

    def test_sorting(self):
        for file in FILES:
            for part in ast.walk(tree(file)):
                if isinstance(part, ast.Call) and isinstance(part.func, ast.Name) and part.func.id == "sorted":
                    self.assertEqual((len(part.args), part.keywords), (1, []), file)

    def test_what_is_not_used(self):
        for file in FILES:
            for part in ast.walk(tree(file)):
                if isinstance(part, ast.Name):
                    self.assertNotIn(part.id, BARRED, file)
                if isinstance(part, ast.Constant):
                    self.assertNotIsInstance(part.value, (float, complex))
                self.assertNotIsInstance(part, (ast.Div, ast.Global, ast.AsyncFunctionDef))
                if isinstance(part, ast.Call) and isinstance(part.func, ast.Name):
                    if part.func.id in ("any", "all", "min", "max", "sum", "sorted"):
                        self.assertFalse(any(isinstance(given, ast.GeneratorExp) for given in part.args), file)
            text = re.sub(r'""".*?"""|#[^\n]*', "", file.read_text(), flags=re.S)
            for word in ("type", "dataclass", "overload", "contextmanager", "%"):
                self.assertNotIn(word, text, file)


if __name__ == "__main__":
    unittest.main()
