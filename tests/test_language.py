"""The rules of ../shared/LANGUAGE.md that a program can see in the files of the package."""

import ast
import builtins
import pathlib
import re
import unittest
import warnings

PACKAGE = pathlib.Path(__file__).resolve().parent.parent / "shownranks"
FILES = sorted(PACKAGE.rglob("*.py"))

BUILTINS = set(
    "len range enumerate zip min max sum abs sorted reversed int str bool bytes list tuple dict set frozenset isinstance"
    " ord repr any all divmod super property staticmethod classmethod object Exception ValueError TypeError KeyError"
    " IndexError LookupError ZeroDivisionError ArithmeticError OverflowError RuntimeError NotImplementedError"
    " AttributeError StopIteration NotImplemented".split()
)
METHODS = set(
    "append clear copy count endswith extend find get index insert isalnum isalpha isdigit islower isspace isupper items"
    " join keys ljust lower lstrip partition pop remove replace reverse rfind rjust rpartition rsplit rstrip setdefault"
    " split splitlines startswith strip update upper values zfill bit_length title capitalize swapcase casefold center"
    " expandtabs removeprefix removesuffix rindex isascii isdecimal isnumeric istitle isidentifier isprintable translate"
    " sort add discard".split()
)
DOUBLE = set(
    "__init__ __eq__ __repr__ __str__ __len__ __enter__ __exit__ __call__ __iter__ __lt__ __le__ __gt__ __ge__ __ne__"
    " __add__ __sub__ __mul__ __floordiv__ __mod__ __neg__ __abs__ __bool__ __contains__ __getitem__ __setitem__".split()
)
BARRED_WORDS = (
    "type typing typing_extensions enum Enum IntEnum StrEnum Flag IntFlag Generic Protocol ABC ABCMeta namedtuple"
    " NamedTuple TypedDict TYPE_CHECKING abstractmethod"
).split()
BARRED_NAMES = set(
    "register mro elements open input version_info with_traceback add_note attrgetter breakpoint builtins compile"
    " copyright credits delattr dir eval exec exit gc getattr globals hasattr help id importlib license locals"
    " methodcaller os quit setattr type vars sys".split()
)
BARRED_NODES = (
    ast.Global, ast.AsyncFunctionDef, ast.AsyncFor, ast.AsyncWith, ast.Await, ast.Div, ast.MatMult, ast.Import,
    ast.TypeIgnore, ast.MatchClass, ast.MatchMapping,
)


def tree_of(file):
    return ast.parse(file.read_text(encoding="utf-8"))


def nodes_of(file, kind):
    return [node for node in ast.walk(tree_of(file)) if isinstance(node, kind)]


def bound_at_top(tree):
    """The names that a module binds, once for each time."""
    names = []
    for row in tree.body:
        if isinstance(row, (ast.FunctionDef, ast.ClassDef)):
            names.append(row.name)
        elif isinstance(row, ast.ImportFrom):
            names.extend(alias.asname or alias.name for alias in row.names)
        elif isinstance(row, ast.Assign):
            names.extend(target.id for target in row.targets)
    return names


def imports_of(tree):
    return {row.module: [alias.name for alias in row.names] for row in tree.body if isinstance(row, ast.ImportFrom)}


def file_of(module):
    return PACKAGE.joinpath(*module.split(".")[1:]).with_suffix(".py")


def reached_from(module, seen):
    for further in imports_of(tree_of(file_of(module))):
        if further not in seen:
            seen.add(further)
            reached_from(further, seen)
    return seen


class Files(unittest.TestCase):
    def test_nothing_but_python_files_stands_in_the_folder(self):
        for thing in PACKAGE.rglob("*"):
            if "__pycache__" not in thing.parts:
                self.assertRegex(thing.name, r"^[a-z0-9_]+\.py$")
        self.assertTrue((PACKAGE / "__init__.py").is_file())
        self.assertLessEqual(len(FILES), 100)

    def test_characters_and_sizes(self):
        for file in FILES:
            text = file.read_text(encoding="utf-8")
            self.assertRegex(text, r"\A[\n -~]*\Z", file.name)
            self.assertLessEqual(len(text.splitlines()), 400, file.name)
            self.assertLessEqual(max(map(len, text.splitlines()), default=0), 120, file.name)
            for node in nodes_of(file, ast.FunctionDef):
                self.assertLessEqual(node.end_lineno - node.lineno + 1, 40, f"{file.name} {node.name}")

    def test_python_gives_no_warning(self):
        with warnings.catch_warnings():
            warnings.simplefilter("error")
            for file in FILES:
                compile(file.read_text(encoding="utf-8"), str(file), "exec")

    def test_barred_words(self):
        for file in FILES:
            text = file.read_text(encoding="utf-8")
            for word in BARRED_WORDS:
                self.assertIsNone(re.search(rf"\b{word}\b", text), f"{file.name} {word}")
            self.assertIsNone(re.search("dataclass|overload|contextmanager", text), file.name)


class Modules(unittest.TestCase):
    def test_imports_name_the_file_that_defines_what_they_import(self):
        for file in FILES:
            for node in nodes_of(file, ast.ImportFrom):
                self.assertEqual(node.level, 0, file.name)
                self.assertTrue(node.module.startswith("shownranks."), f"{file.name} {node.module}")
                defined = bound_at_top(tree_of(file_of(node.module)))
                brought_there = sum(imports_of(tree_of(file_of(node.module))).values(), [])
                for alias in node.names:
                    self.assertIn(alias.name, defined, file.name)
                    self.assertNotIn(alias.name, brought_there, file.name)

    def test_no_two_files_import_from_each_other(self):
        for file in FILES:
            module = ".".join(["shownranks", *file.relative_to(PACKAGE).with_suffix("").parts])
            self.assertNotIn(module, reached_from(module, set()))

    def test_what_stands_at_the_top_of_a_file(self):
        allowed = (ast.ImportFrom, ast.FunctionDef, ast.ClassDef, ast.Assign)
        for file in FILES:
            tree = tree_of(file)
            self.assertIsNotNone(ast.get_docstring(tree), file.name)
            for row in tree.body[1:]:
                self.assertIsInstance(row, allowed, f"{file.name}:{row.lineno}")
            names = bound_at_top(tree)
            self.assertEqual(len(names), len(set(names)), file.name)


class Names(unittest.TestCase):
    def test_of_pythons_own_names_only_the_allowed_ones(self):
        own = set(dir(builtins))
        for file in FILES:
            for node in nodes_of(file, ast.Name):
                if isinstance(node.ctx, ast.Load) and node.id in own:
                    self.assertIn(node.id, BUILTINS, f"{file.name}:{node.lineno}")

    def test_variables_and_parameters(self):
        for file in FILES:
            tree = tree_of(file)
            taken = set(dir(builtins)) | BARRED_NAMES | set(sum(imports_of(tree).values(), []))
            taken |= {row.name for row in tree.body if isinstance(row, ast.ClassDef)}
            bound = [(node.id, node) for node in nodes_of(file, ast.Name) if isinstance(node.ctx, ast.Store)]
            bound += [(node.arg, node) for node in nodes_of(file, ast.arg)]
            for name, node in bound:
                self.assertNotIn(name, taken, f"{file.name}:{node.lineno}")
                self.assertFalse(name.startswith("_"), f"{file.name}:{node.lineno}")

    def test_functions_methods_and_attributes(self):
        for file in FILES:
            for node in nodes_of(file, ast.FunctionDef):
                allowed = node.name in DOUBLE or not node.name.startswith("_") and node.name not in BARRED_NAMES
                self.assertTrue(allowed, f"{file.name} {node.name}")
            for node in nodes_of(file, ast.Attribute):
                allowed = node.attr in DOUBLE or not node.attr.startswith("_")
                self.assertTrue(allowed, f"{file.name}:{node.lineno}")

    def test_no_name_is_a_method_here_and_an_attribute_there(self):
        methods, stored, read = set(), set(), set()
        for file in FILES:
            for kind in nodes_of(file, ast.ClassDef):
                methods |= {row.name for row in kind.body if isinstance(row, ast.FunctionDef)}
            for node in nodes_of(file, ast.Attribute):
                (read if isinstance(node.ctx, ast.Load) else stored).add(node.attr)
        self.assertEqual(methods & stored, set())
        self.assertEqual(read - methods - stored - METHODS, set())


class Rows(unittest.TestCase):
    def test_barred_kinds_of_rows_and_values(self):
        for file in FILES:
            for node in nodes_of(file, BARRED_NODES):
                self.fail(f"{file.name}: {node}")
            for node in nodes_of(file, ast.Constant):
                self.assertNotIsInstance(node.value, (float, complex), f"{file.name}:{node.lineno}")
                if isinstance(node.value, str):
                    self.assertNotIn(chr(37), node.value, f"{file.name}:{node.lineno}")

    def test_is_stands_only_beside_none_true_and_false(self):
        for file in FILES:
            for node in nodes_of(file, ast.Compare):
                for sign, right in zip(node.ops, node.comparators):
                    if isinstance(sign, (ast.Is, ast.IsNot)):
                        self.assertIsInstance(right, ast.Constant, f"{file.name}:{node.lineno}")
                        self.assertIn(repr(right.value), ["None", "True", "False"], f"{file.name}:{node.lineno}")

    def test_errors_are_made_on_the_spot_and_caught_by_name(self):
        for file in FILES:
            for node in nodes_of(file, ast.Raise):
                self.assertTrue(node.exc is None or isinstance(node.exc, ast.Call), f"{file.name}:{node.lineno}")
            for node in nodes_of(file, ast.ExceptHandler):
                self.assertIsNotNone(node.type, f"{file.name}:{node.lineno}")


if __name__ == "__main__":
    unittest.main()
