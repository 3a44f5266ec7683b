"""The form of the package: those rules of the language that a look at its files can show."""

import ast
import builtins
import pathlib
import re
import unittest

PACKAGE = pathlib.Path(__file__).resolve().parent.parent / "wayneedle"

ALLOWED = set("""len range enumerate zip min max sum abs sorted reversed int str bool bytes list tuple dict set
    isinstance ord repr any all divmod iter next Exception ValueError TypeError KeyError IndexError LookupError
    ZeroDivisionError ArithmeticError OverflowError RuntimeError NotImplementedError AttributeError StopIteration
    NotImplemented property staticmethod classmethod super True False None""".split())

BARRED = """type typing typing_extensions enum Enum IntEnum StrEnum Flag IntFlag Generic Protocol ABC ABCMeta namedtuple
    NamedTuple TypedDict TYPE_CHECKING abstractmethod""".split()

METHODS = {"__init__", "__eq__", "__repr__", "__str__", "__len__"}

BUILTIN_METHODS = set("""append clear copy count endswith extend find get index insert isalnum isalpha isdigit islower isspace
    isupper items join keys ljust lower lstrip partition pop remove replace reverse rfind rjust rpartition rsplit rstrip
    setdefault split splitlines startswith strip update upper values zfill bit_length""".split())

# Which functions and classes the interface lists under which file.
INTERFACE = {
    "lots": "step way_of true shown both undone turned",
    "logs": "is_name is_sign is_lone held_log legs_in",
    "tracks": "track facts",
    "atlas": "Atlas is_dealt told groups",
    "fits": "spread fits",
    "bars": "is_bad bars settled",
    "sure": "lots_left apart surely shows",
    "maps": "charted drawn",
    "ways": "road leads sure_way",
    "blame": "blamed question asking known_by",
    "book": "Book",
    "texts": "entry_text log_text dealing_text atlas_text read_entry read_log read_dealing read_atlas",
    "desk": "Desk",
}


def sources():
    """The path, the text and the tree of each file."""
    return [(path, path.read_text("ascii"), ast.parse(path.read_text("ascii"))) for path in sorted(PACKAGE.glob("*.py"))]


def nodes(kind):
    """The path and the node of each node of the kind, in all files."""
    return [(path, node) for path, text, tree in sources() for node in ast.walk(tree) if isinstance(node, kind)]


def bound(tree):
    """The names that a file binds at its module level, but those of imports."""
    found = []
    for node in tree.body:
        if isinstance(node, (ast.FunctionDef, ast.ClassDef)):
            found.append(node.name)
        elif isinstance(node, ast.Assign):
            found += [target.id for target in node.targets]
    return found


class Files(unittest.TestCase):
    def test_the_folder_holds_nothing_else(self):
        for path in PACKAGE.iterdir():
            if path.name != "__pycache__":
                self.assertRegex(path.name, r"\A([a-z][a-z0-9_]*|__init__|__main__)\.py\Z")

    def test_sizes_and_signs(self):
        for path, text, tree in sources():
            self.assertRegex(text, r"\A[ -~\n]*\Z", path)
            self.assertLess(len(text.splitlines()), 400, path)
            for line in text.splitlines():
                self.assertLessEqual(len(line), 120, (path, line))

    def test_functions_are_short(self):
        for path, node in nodes(ast.FunctionDef):
            self.assertLessEqual(node.end_lineno - node.lineno + 1, 40, (path, node.name))

    def test_barred_words(self):
        for path, text, tree in sources():
            self.assertEqual(re.findall(r"\b(" + "|".join(BARRED) + r")\b", text), [], path)
            self.assertEqual(re.findall("dataclass|overload|contextmanager", text), [], path)


class Interface(unittest.TestCase):
    def test_each_is_defined_in_its_file(self):
        defined = {}
        for path, text, tree in sources():
            defined[path.stem] = [node.name for node in tree.body if isinstance(node, (ast.FunctionDef, ast.ClassDef))]
        for stem, names in INTERFACE.items():
            self.assertEqual(set(names.split()) - set(defined[stem]), set(), stem)


class Imports(unittest.TestCase):
    def test_only_from_the_very_file_of_the_package(self):
        self.assertEqual(nodes(ast.Import), [])
        defined = {"wayneedle." + path.stem: bound(tree) for path, text, tree in sources()}
        for path, node in nodes(ast.ImportFrom):
            for name in node.names:
                self.assertIn(name.name, defined[node.module], path)

    def test_no_file_imports_itself_through_others(self):
        reached = {"wayneedle." + path.stem: set() for path, text, tree in sources()}
        for path, node in nodes(ast.ImportFrom):
            reached["wayneedle." + path.stem].add(node.module)
        for _ in reached:
            for name in reached:
                for beyond in list(reached[name]):
                    reached[name] |= reached[beyond]
        for name in reached:
            self.assertNotIn(name, reached[name])


class Names(unittest.TestCase):
    def test_each_is_bound_once_at_module_level(self):
        for path, text, tree in sources():
            names = bound(tree)
            names += [name.name for node in tree.body if isinstance(node, ast.ImportFrom) for name in node.names]
            self.assertEqual(len(names), len(set(names)), path)

    def test_own_names_are_plain_and_no_builtins(self):
        for path, text, tree in sources():
            for node in ast.walk(tree):
                name = None
                if isinstance(node, (ast.FunctionDef, ast.ClassDef)):
                    name = node.name
                elif isinstance(node, ast.arg):
                    name = node.arg
                elif isinstance(node, ast.Name) and not isinstance(node.ctx, ast.Load):
                    name = node.id
                if name is not None and name not in METHODS:
                    self.assertFalse(name.startswith("_") or hasattr(builtins, name), (path, name))

    def test_only_the_builtins_that_are_allowed(self):
        for path, node in nodes(ast.Name):
            if hasattr(builtins, node.id):
                self.assertIn(node.id, ALLOWED, (path, node.lineno))


class Code(unittest.TestCase):
    def test_no_statements_that_are_barred(self):
        barred = (ast.Global, ast.AsyncFunctionDef, ast.AsyncFor, ast.AsyncWith, ast.Await, ast.Div)
        self.assertEqual(nodes(barred), [])

    def test_is_beside_none_and_truths_only(self):
        for path, node in nodes(ast.Compare):
            for sign, right in zip(node.ops, node.comparators):
                if isinstance(sign, (ast.Is, ast.IsNot)):
                    self.assertIsInstance(right, ast.Constant, (path, node.lineno))

    def test_literals(self):
        for path, node in nodes(ast.Constant):
            self.assertNotIsInstance(node.value, (float, complex), (path, node.lineno))
            if isinstance(node.value, str):
                self.assertNotIn("%", node.value, (path, node.lineno))

    def test_lists_instead_of_generators(self):
        # A class of the package has an __eq__ of its own, so these take lists alone, and no list is sorted in place.
        for path, node in nodes(ast.Call):
            if isinstance(node.func, ast.Name) and node.func.id in ("any", "all", "min", "max", "sum", "sorted"):
                self.assertFalse([arg for arg in node.args if isinstance(arg, ast.GeneratorExp)], (path, node.lineno))
            if isinstance(node.func, ast.Attribute):
                self.assertNotEqual(node.func.attr, "sort", (path, node.lineno))

    def test_no_name_is_a_method_and_an_attribute(self):
        methods = {part.name for path, node in nodes(ast.ClassDef) for part in node.body if isinstance(part, ast.FunctionDef)}
        attributes = {node.attr for path, node in nodes(ast.Attribute) if isinstance(node.ctx, ast.Store)}
        self.assertEqual(methods & attributes, set())
        read = {node.attr for path, node in nodes(ast.Attribute) if isinstance(node.ctx, ast.Load)}
        self.assertEqual(read - methods - attributes - BUILTIN_METHODS, set())

    def test_attributes_are_set_through_a_local_name(self):
        for path, node in nodes(ast.Attribute):
            if isinstance(node.ctx, ast.Store):
                self.assertIsInstance(node.value, ast.Name, (path, node.lineno))

    def test_own_errors_alone_are_caught(self):
        own = {node.name for path, node in nodes(ast.ClassDef) if path.stem == "errors"}
        for path, node in nodes(ast.ExceptHandler):
            self.assertIn(node.type.id, own, (path, node.lineno))

    def test_no_local_name_is_that_of_a_class_or_an_import(self):
        for path, text, tree in sources():
            barred = {name.asname or name.name for node in tree.body if isinstance(node, ast.ImportFrom) for name in node.names}
            barred |= {node.name for node in tree.body if isinstance(node, ast.ClassDef)}
            for node in ast.walk(tree):
                if isinstance(node, ast.arg):
                    self.assertNotIn(node.arg, barred, path)
                elif isinstance(node, ast.Name) and not isinstance(node.ctx, ast.Load):
                    self.assertNotIn(node.id, barred, (path, node.lineno))

    def test_errors_are_made_where_they_are_raised(self):
        for path, node in nodes(ast.Raise):
            if node.exc is not None:
                self.assertIsInstance(node.exc, ast.Call, (path, node.lineno))
                self.assertIsInstance(node.exc.func, ast.Name, (path, node.lineno))


if __name__ == "__main__":
    unittest.main()
