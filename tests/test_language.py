"""Holds the package's files to those rules of its language that their text and tree can show."""

import ast
import builtins
import pathlib
import re
import unittest

PACKAGE = pathlib.Path(__file__).resolve().parent.parent / "gaphand"

NODES = (
    "Module Expr ImportFrom alias FunctionDef ClassDef arguments arg Assign AugAssign If While For Return Break "
    "Continue Pass Raise Try ExceptHandler Call keyword Name Load Store Attribute Subscript Slice List Tuple Dict "
    "Constant BinOp UnaryOp BoolOp Compare IfExp ListComp comprehension Lambda JoinedStr FormattedValue "
    "Add Sub Mult FloorDiv Mod Pow LShift RShift BitAnd BitOr BitXor Invert USub UAdd Not And Or "
    "Eq NotEq Lt LtE Gt GtE In NotIn Is IsNot"
).split()

OWN_NAMES = (
    "len range enumerate zip min max sum abs sorted reversed int str bool list tuple dict set frozenset isinstance "
    "ord repr any all divmod Exception ValueError TypeError KeyError IndexError LookupError ZeroDivisionError "
    "ArithmeticError OverflowError RuntimeError NotImplementedError AttributeError StopIteration"
).split()

OWN_METHODS = (
    "append clear copy count endswith extend find get index insert isalnum isalpha isdigit islower isspace isupper "
    "items join keys ljust lower lstrip partition pop remove replace reverse rfind rjust rpartition rsplit rstrip "
    "setdefault split splitlines startswith strip update upper values zfill bit_length"
).split()

WORDS = (
    "type typing typing_extensions enum Enum IntEnum StrEnum Flag IntFlag Generic Protocol ABC ABCMeta namedtuple "
    "NamedTuple TypedDict TYPE_CHECKING abstractmethod"
).split()

NOT_USED = "register mro elements open input version_info with_traceback add_note format format_map".split()

KEYWORDS = {"sorted": "key reverse", "min": "key default", "max": "key default", "sum": "start",
            "enumerate": "start", "zip": "strict"}

WALKED = "zip enumerate reversed range items keys values".split()

WALKERS = "list tuple dict sorted sum any all enumerate zip min max".split()

DEFINED = ("__init__", "__eq__", "__repr__", "__str__", "__len__")


def sources():
    return {path: path.read_bytes().decode("utf-8") for path in sorted(PACKAGE.glob("**/*.py"))}


def trees():
    return {path: ast.parse(text) for path, text in sources().items()}


def walked(kind):
    for path, tree in trees().items():
        for node in ast.walk(tree):
            if isinstance(node, kind):
                yield path.name, node


def drawn_from(tree):
    return [node.module for node in tree.body if isinstance(node, ast.ImportFrom)]


class Text(unittest.TestCase):
    def test_files(self):
        for path in PACKAGE.iterdir():
            if path.name != "__pycache__":
                self.assertRegex(path.name, r"^(__init__|[a-z][a-z0-9_]*)\.py$")
                self.assertNotIn(path.stem, dir(builtins) + WORDS + ["test", "tests", "testing", "site", "conftest"])
        self.assertTrue((PACKAGE / "__init__.py").is_file())

    def test_signs_and_sizes(self):
        for path, text in sources().items():
            self.assertRegex(text, r"\A[ -~\n]*\Z", path.name)
            rows = text.split("\n")
            self.assertLessEqual(len(rows), 400, path.name)
            self.assertLessEqual(max(len(row) for row in rows), 120, path.name)
        for name, node in walked(ast.FunctionDef):
            self.assertLessEqual(node.end_lineno - node.lineno + 1, 40, (name, node.name))

    def test_words(self):
        for path, text in sources().items():
            self.assertEqual([word for word in re.findall(r"\w+", text) if word in WORDS], [], path.name)
            self.assertNotRegex(text, "dataclass|overload|contextmanager", path.name)


class Tree(unittest.TestCase):
    def test_nodes(self):
        for name, node in walked(ast.AST):
            self.assertIn(node.__class__.__name__, NODES, (name, getattr(node, "lineno", 0)))

    def test_top_of_a_module(self):
        for path, tree in trees().items():
            self.assertIsNotNone(ast.get_docstring(tree), path.name)
            for node in tree.body[1:]:
                self.assertIsInstance(node, (ast.ImportFrom, ast.FunctionDef, ast.ClassDef, ast.Assign), path.name)
                if isinstance(node, ast.Assign):
                    ast.literal_eval(node.value)

    def test_imports_come_from_the_defining_file_and_never_in_a_ring(self):
        defined = {}
        ahead = {}
        for path, tree in trees().items():
            module = "gaphand" if path.stem == "__init__" else "gaphand." + path.stem
            defined[module] = [getattr(node, "name", None) for node in tree.body]
            ahead[module] = drawn_from(tree)
        for name, node in walked(ast.ImportFrom):
            for part in node.names:
                self.assertIn(part.name, defined[node.module], name)
        self.assertEqual(ahead["gaphand"], [])
        while ahead:
            free = [module for module, needs in ahead.items() if not any(need in ahead for need in needs)]
            self.assertNotEqual(free, [], ahead)
            for module in free:
                del ahead[module]

    def test_functions_are_plain(self):
        for name, node in walked(ast.FunctionDef):
            self.assertEqual(node.decorator_list, [], name)
            self.assertIsNone(node.returns, name)
        for name, node in walked(ast.arguments):
            self.assertEqual((node.posonlyargs, node.kwonlyargs, node.vararg, node.kwarg), ([], [], None, None), name)
            self.assertEqual([part.annotation for part in node.args if part.annotation], [], name)

    def test_classes_are_plain(self):
        for path, tree in trees().items():
            inner = [node for node in ast.walk(tree) if isinstance(node, ast.ClassDef)]
            self.assertEqual(inner, [node for node in tree.body if isinstance(node, ast.ClassDef)], path.name)
            for node in inner:
                self.assertLessEqual(len(node.bases), 1, node.name)
                self.assertEqual((node.keywords, node.decorator_list), ([], []), node.name)
                for part in node.body:
                    self.assertIsInstance(part, (ast.FunctionDef, ast.Pass), node.name)

    def test_names(self):
        for path, tree in trees().items():
            own = [node.name for node in ast.walk(tree) if isinstance(node, (ast.FunctionDef, ast.ClassDef))]
            bound = [node.arg for node in ast.walk(tree) if isinstance(node, ast.arg)]
            bound += [node.id for node in ast.walk(tree) if isinstance(node, ast.Name) and isinstance(node.ctx, ast.Store)]
            bound += [part.name for node in ast.walk(tree) if isinstance(node, ast.ImportFrom) for part in node.names]
            for name in own + bound:
                self.assertNotIn(name, dir(builtins) + NOT_USED, path.name)
                self.assertTrue(name in DEFINED or not name.startswith("_"), (path.name, name))
            for node in ast.walk(tree):
                if isinstance(node, ast.Name) and isinstance(node.ctx, ast.Load):
                    self.assertIn(node.id, own + bound + OWN_NAMES, (path.name, node.lineno))

    def test_attributes_and_methods(self):
        methods = [part.name for name, node in walked(ast.ClassDef) for part in node.body
                   if isinstance(part, ast.FunctionDef)]
        for name, node in walked(ast.Attribute):
            self.assertNotIn(node.attr, NOT_USED, (name, node.lineno))
            if isinstance(node.ctx, ast.Store):
                self.assertNotIn(node.attr, methods, (name, node.lineno))
        for name, node in walked(ast.Call):
            if isinstance(node.func, ast.Attribute):
                self.assertIn(node.func.attr, methods + OWN_METHODS, (name, node.lineno))

    def test_statements_and_values(self):
        for name, node in walked(ast.Constant):
            self.assertIsInstance(node.value, (int, str, type(None)), (name, node.lineno))
            self.assertNotIn("%", str(node.value), (name, node.lineno))
        for name, node in walked((ast.For, ast.While)):
            self.assertEqual(node.orelse, [], (name, node.lineno))
        for name, node in walked(ast.Assign):
            self.assertEqual(len(node.targets), 1, (name, node.lineno))
        for name, node in walked(ast.Try):
            self.assertEqual(node.finalbody, [], (name, node.lineno))
        for name, node in walked(ast.Raise):
            self.assertIsInstance(node.exc, ast.Call, (name, node.lineno))
        for name, node in walked(ast.BinOp):
            if isinstance(node.op, ast.Pow):
                self.assertIn(getattr(node.right, "value", None), range(65), (name, node.lineno))

    def test_no_local_hides_an_import_or_a_class(self):
        for path, tree in trees().items():
            taken = [part.name for node in tree.body if isinstance(node, ast.ImportFrom) for part in node.names]
            taken += [node.name for node in tree.body if isinstance(node, ast.ClassDef)]
            for node in ast.walk(tree):
                if isinstance(node, ast.arg):
                    self.assertNotIn(node.arg, taken, (path.name, node.lineno))
                if isinstance(node, ast.Name) and isinstance(node.ctx, ast.Store):
                    self.assertNotIn(node.id, taken, (path.name, node.lineno))

    def test_is_stands_beside_none_and_truths_alone(self):
        for name, node in walked(ast.Compare):
            for sign, right in zip(node.ops, node.comparators):
                if isinstance(sign, (ast.Is, ast.IsNot)):
                    self.assertIn(getattr(right, "value", 0), (None, True, False), (name, node.lineno))

    def test_keywords_at_names_of_pythons_own(self):
        for name, node in walked(ast.Call):
            called = getattr(node.func, "id", getattr(node.func, "attr", ""))
            if called in OWN_NAMES + OWN_METHODS:
                for part in node.keywords:
                    self.assertIn(part.arg, KEYWORDS.get(called, "").split(), (name, node.lineno))

    def test_walked_at_once(self):
        on_the_spot = [node.iter for name, node in walked((ast.For, ast.comprehension))]
        for name, node in walked(ast.Call):
            if getattr(node.func, "id", "") in WALKERS:
                on_the_spot += node.args
        spots = [(node.lineno, node.col_offset, ast.dump(node)) for node in on_the_spot]
        for name, node in walked(ast.Call):
            if getattr(node.func, "id", getattr(node.func, "attr", "")) in WALKED:
                self.assertIn((node.lineno, node.col_offset, ast.dump(node)), spots, (name, node.lineno))

    def test_no_sets_and_no_errors_of_pythons_own_taken(self):
        for name, node in walked(ast.Name):
            self.assertNotIn(node.id, ("set", "frozenset"), (name, node.lineno))
        for name, node in walked(ast.ExceptHandler):
            self.assertNotIn(getattr(node.type, "id", None), [None] + dir(builtins), (name, node.lineno))

    def test_making_gives_back_nothing(self):
        for name, node in walked(ast.FunctionDef):
            if node.name == "__init__":
                self.assertEqual([part for part in ast.walk(node) if isinstance(part, ast.Return)], [], name)


if __name__ == "__main__":
    unittest.main()
