"""The package's files keep to the written rules of the language, as far as a look at the code can tell."""

import ast
import builtins
import pathlib
import re
import unittest

ROOT = pathlib.Path(__file__).resolve().parent.parent
PACKAGE = ROOT / "tinrecall"
FILES = sorted(PACKAGE.rglob("*.py"))

BUILTINS = set(
    "len range enumerate zip min max sum abs sorted reversed int str bool list tuple dict set isinstance ord repr "
    "any all divmod iter next Exception ValueError TypeError KeyError IndexError LookupError ZeroDivisionError "
    "ArithmeticError OverflowError RuntimeError NotImplementedError StopIteration NotImplemented property "
    "staticmethod classmethod super object".split())
METHODS = set(
    "append clear copy count endswith extend find get index insert isalnum isalpha isdigit islower isspace isupper "
    "items join keys ljust lower lstrip partition pop remove replace reverse rfind rjust rpartition rsplit rstrip "
    "setdefault split splitlines startswith strip update upper values zfill bit_length sort add discard".split())
BARRED_WORDS = (
    "type typing typing_extensions enum Enum IntEnum StrEnum Flag IntFlag Generic Protocol ABC ABCMeta namedtuple "
    "NamedTuple TypedDict TYPE_CHECKING abstractmethod").split()
BARRED_NAMES = set(
    "register mro elements open input version_info with_traceback add_note attrgetter breakpoint builtins compile "
    "copyright credits delattr dir eval exec exit gc getattr globals hasattr help id importlib license locals "
    "methodcaller os quit setattr type vars sys format format_map".split())
BARRED_NODES = (
    ast.Global, ast.AsyncFunctionDef, ast.AsyncFor, ast.AsyncWith, ast.Await, ast.Div, ast.MatMult, ast.Import)


def tree_of(path):
    return ast.parse(path.read_text("utf-8"))


def bound_names(tree):
    """Every name that the code gives a meaning to."""
    for node in ast.walk(tree):
        if isinstance(node, (ast.FunctionDef, ast.ClassDef)):
            yield node.name
        elif isinstance(node, ast.arg):
            yield node.arg
        elif isinstance(node, ast.Name) and isinstance(node.ctx, ast.Store):
            yield node.id
        elif isinstance(node, ast.Attribute) and isinstance(node.ctx, ast.Store):
            yield node.attr


OWN_METHODS = {method.name for path in FILES for node in tree_of(path).body if isinstance(node, ast.ClassDef)
               for method in node.body if isinstance(method, ast.FunctionDef)}


class LanguageTest(unittest.TestCase):
    def test_only_files_of_the_package(self):
        found = [path for path in PACKAGE.rglob("*") if "__pycache__" not in path.parts]
        self.assertEqual(sorted(found), FILES)
        self.assertIn(PACKAGE / "__init__.py", FILES)
        for path in FILES:
            self.assertRegex(path.name, r"^(__init__|[a-z][a-z0-9_]*)\.py$")

    def test_characters_and_sizes(self):
        for path in FILES:
            with self.subTest(path.name):
                text = path.read_bytes().decode("utf-8")
                self.assertEqual([sign for sign in text if sign != "\n" and not " " <= sign <= "~"], [])
                self.assertLessEqual(len(text.splitlines()), 400)
                self.assertLessEqual(max([len(line) for line in text.splitlines()], default=0), 120)
                for node in ast.walk(tree_of(path)):
                    if isinstance(node, ast.FunctionDef):
                        self.assertLessEqual(node.end_lineno - node.lineno + 1, 40, node.name)

    def test_words_that_do_not_occur(self):
        for path in FILES:
            with self.subTest(path.name):
                text = path.read_text("utf-8")
                self.assertEqual([word for word in BARRED_WORDS if re.search(rf"\b{word}\b", text)], [])
                self.assertIsNone(re.search("dataclass|overload|contextmanager", text))

    def test_module_level(self):
        for path in FILES:
            with self.subTest(path.name):
                bound = []
                for node in tree_of(path).body:
                    if isinstance(node, ast.ImportFrom):
                        bound += [name.asname or name.name for name in node.names]
                    elif isinstance(node, ast.Assign):
                        self.assertIsInstance(node.targets[0], ast.Name)
                        bound.append(node.targets[0].id)
                        self.assertFalse([one for one in ast.walk(node.value) if isinstance(one, ast.Call)])
                    elif isinstance(node, ast.Expr):
                        self.assertIsInstance(node.value, ast.Constant)
                    else:
                        self.assertIsInstance(node, (ast.FunctionDef, ast.ClassDef))
                        bound.append(node.name)
                self.assertEqual(len(bound), len(set(bound)))

    def test_imports_name_the_file_that_defines(self):
        for path in FILES:
            with self.subTest(path.name):
                for node in ast.walk(tree_of(path)):
                    if isinstance(node, ast.ImportFrom):
                        self.assertEqual((node.level, node.module.split(".")[0]), (0, "tinrecall"))
                        home = PACKAGE.joinpath(*node.module.split(".")[1:]).with_suffix(".py")
                        defined = list(bound_names(ast.Module(tree_of(home).body, [])))
                        for name in node.names:
                            self.assertIn(name.name, defined)

    def test_no_two_files_import_from_each_other(self):
        wanted = {}
        for path in FILES:
            imports = [node.module for node in ast.walk(tree_of(path)) if isinstance(node, ast.ImportFrom)]
            wanted[path.stem] = {module.split(".")[-1] for module in imports}
        while wanted:
            free = [name for name in wanted if not wanted[name] & set(wanted)]
            self.assertTrue(free, f"a ring of imports among {sorted(wanted)}")
            for name in free:
                del wanted[name]

    def test_names(self):
        for path in FILES:
            with self.subTest(path.name):
                tree = tree_of(path)
                imported = {name.name for node in tree.body if isinstance(node, ast.ImportFrom) for name in node.names}
                for name in bound_names(tree):
                    self.assertRegex(name, r"^([A-Za-z][A-Za-z0-9_]*|__[a-z]+__)$")
                    self.assertNotIn(name, BARRED_NAMES)
                    self.assertNotIn(name, vars(builtins))
                    self.assertNotIn(name, imported)

    def test_builtins_and_methods(self):
        for path in FILES:
            with self.subTest(path.name):
                tree = tree_of(path)
                own = set(bound_names(tree))
                for node in tree.body:
                    if isinstance(node, ast.ImportFrom):
                        own |= {name.name for name in node.names}
                for node in ast.walk(tree):
                    if isinstance(node, ast.Name):
                        self.assertIn(node.id, own | BUILTINS)
                    if isinstance(node, ast.Call) and isinstance(node.func, ast.Attribute):
                        self.assertIn(node.func.attr, METHODS | OWN_METHODS | {"__init__"})

    def test_no_name_is_a_method_and_an_attribute(self):
        assigned = set()
        for path in FILES:
            assigned |= {node.attr for node in ast.walk(tree_of(path))
                         if isinstance(node, ast.Attribute) and isinstance(node.ctx, ast.Store)}
        self.assertEqual(assigned & OWN_METHODS, set())
        for path in FILES:
            with self.subTest(path.name):
                tree = tree_of(path)
                called = {id(node.func) for node in ast.walk(tree) if isinstance(node, ast.Call)}
                for node in ast.walk(tree):
                    # A method is called where it stands, and what is read otherwise some class assigns.
                    if isinstance(node, ast.Attribute) and id(node) not in called:
                        self.assertIn(node.attr, assigned)

    def test_tables_are_not_passed_on(self):
        for path in FILES:
            with self.subTest(path.name):
                tree = tree_of(path)
                tables = {node.targets[0].id for node in tree.body
                          if isinstance(node, ast.Assign) and isinstance(node.value, (ast.List, ast.Dict))}
                for node in ast.walk(tree):
                    if isinstance(node, ast.Call):
                        handed = {one.id for one in node.args if isinstance(one, ast.Name)}
                        if not isinstance(node.func, ast.Name) or node.func.id not in ("list", "dict", "len", "sorted"):
                            self.assertEqual(handed & tables, set())
                    if isinstance(node, (ast.Return, ast.Assign)) and isinstance(node.value, ast.Name):
                        self.assertNotIn(node.value.id, tables)

    def test_signs_and_statements(self):
        for path in FILES:
            with self.subTest(path.name):
                for node in ast.walk(tree_of(path)):
                    self.assertNotIsInstance(node, BARRED_NODES)
                    if isinstance(node, ast.Constant):
                        self.assertNotIsInstance(node.value, (float, complex))
                        self.assertNotIn("%", str(node.value))
                    if isinstance(node, ast.Compare):
                        for sign, right in zip(node.ops, node.comparators):
                            if isinstance(sign, (ast.Is, ast.IsNot)):
                                self.assertIsInstance(right, ast.Constant)
                                self.assertIn(right.value, (None, True, False))


if __name__ == "__main__":
    unittest.main()
