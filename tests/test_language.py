"""The package keeps to the small part of Python that it is written in."""

import ast
import builtins
import pathlib
import re
import unittest

PACKAGE = pathlib.Path(__file__).resolve().parent.parent / "bookfeed"

NODES = (
    "Module Expr Import ImportFrom alias FunctionDef arguments arg Return ClassDef Assign AugAssign If While For Break "
    "Continue Pass Raise Try ExceptHandler Call Attribute Subscript Slice Name Constant List Tuple Dict Set Lambda "
    "ListComp comprehension BinOp UnaryOp BoolOp Compare IfExp JoinedStr FormattedValue keyword Load Store "
    "Add Sub Mult FloorDiv Mod Pow BitAnd BitOr BitXor LShift RShift Invert Not USub UAdd And Or "
    "Eq NotEq Lt LtE Gt GtE In NotIn Is IsNot"
).split()
OWN_NAMES = (
    "len range enumerate zip min max sum abs sorted reversed int str bool list tuple dict set frozenset isinstance ord "
    "repr any all divmod Exception ValueError TypeError KeyError IndexError LookupError ZeroDivisionError "
    "ArithmeticError OverflowError RuntimeError NotImplementedError AttributeError StopIteration"
).split()
METHODS = (
    "append clear copy count endswith extend find get index insert isalnum isalpha isdigit islower isspace isupper "
    "items join keys ljust lower lstrip partition pop remove replace reverse rfind rjust rpartition rsplit rstrip "
    "setdefault split splitlines startswith strip update upper values zfill bit_length"
).split()
WORDS = (
    "type typing typing_extensions enum Enum IntEnum StrEnum Flag IntFlag Generic Protocol ABC ABCMeta namedtuple "
    "NamedTuple TypedDict TYPE_CHECKING abstractmethod"
).split()
PARTS = "dataclass overload contextmanager".split()
UNUSED = "register mro elements open input version_info with_traceback add_note".split()
TAKEN = {name for kind in (str, int, list, dict, set, bytes) for name in dir(kind)}


def modules():
    return sorted(PACKAGE.glob("*.py"))


def names_of(tree):
    for node in ast.walk(tree):
        if isinstance(node, ast.Name):
            yield node.id
        elif isinstance(node, ast.Attribute):
            yield node.attr
        elif isinstance(node, ast.arg):
            yield node.arg
        elif isinstance(node, (ast.FunctionDef, ast.ClassDef)):
            yield node.name


class Language(unittest.TestCase):
    def each(self):
        for path in modules():
            with self.subTest(file=path.name):
                text = path.read_text(encoding="utf-8")
                yield path, text, ast.parse(text)

    def test_only_plain_files(self):
        names = [path.name for path in PACKAGE.iterdir() if path.name != "__pycache__"]
        self.assertIn("__init__.py", names)
        self.assertEqual([name for name in names if not re.fullmatch(r"[a-z0-9_]+\.py", name)], [])

    def test_signs_sizes_and_words(self):
        for path, text, tree in self.each():
            self.assertRegex(text, r"\A[ -~\n]*\Z")
            lines = text.split("\n")
            self.assertLessEqual(len(lines), 400)
            self.assertLessEqual(max(len(line) for line in lines), 120)
            self.assertEqual(set(re.findall(r"\w+", text)) & set(WORDS), set())
            self.assertEqual([part for part in PARTS if part in text], [])
            for node in ast.walk(tree):
                if isinstance(node, ast.FunctionDef):
                    self.assertLessEqual(node.end_lineno - node.lineno + 1, 40, node.name)

    def test_statements_and_expressions(self):
        for path, text, tree in self.each():
            self.assertEqual({type(node).__name__ for node in ast.walk(tree)} - set(NODES), set())
            for node in ast.walk(tree):
                if isinstance(node, ast.Assign):
                    self.assertEqual(len(node.targets), 1)
                if isinstance(node, (ast.While, ast.For)):
                    self.assertEqual(node.orelse, [])
                if isinstance(node, ast.FunctionDef):
                    self.assertEqual((node.decorator_list, node.args.vararg, node.args.kwarg), ([], None, None))
                if isinstance(node, ast.Constant):
                    self.assertNotIsInstance(node.value, (float, bytes))

    def test_names(self):
        python_own = set(dir(builtins))
        for path, text, tree in self.each():
            names = set(names_of(tree))
            self.assertEqual([name for name in names if name != "__init__" and name.startswith("_")], [])
            self.assertEqual(names & set(UNUSED), set())
            plain = [node for node in ast.walk(tree) if isinstance(node, ast.Name)]
            self.assertEqual({node.id for node in plain} & python_own - set(OWN_NAMES), set())
            bound = {node.id for node in plain if isinstance(node.ctx, ast.Store)}
            bound |= {node.arg for node in ast.walk(tree) if isinstance(node, ast.arg)}
            self.assertEqual(bound & python_own, set())

    def test_methods_and_values(self):
        for path, text, tree in self.each():
            called = {node.func for node in ast.walk(tree) if isinstance(node, ast.Call)}
            for node in ast.walk(tree):
                if isinstance(node, ast.Attribute) and node in called:
                    self.assertIn(node.attr, METHODS + ["__init__"])
                elif isinstance(node, ast.Attribute):
                    self.assertNotIn(node.attr, TAKEN)

    def test_imports(self):
        drawn = {}
        for path, text, tree in self.each():
            drawn[path.stem] = set()
            for node in ast.walk(tree):
                self.assertNotIsInstance(node, ast.Import)
                if isinstance(node, ast.ImportFrom):
                    package, name = node.module.split(".")
                    self.assertEqual((package, node.level), ("bookfeed", 0))
                    drawn[path.stem].add(name)
        self.assertEqual(drawn["__init__"], set())
        while drawn:
            free = [name for name in drawn if not drawn[name] & set(drawn)]
            self.assertTrue(free, f"files draw from one another: {sorted(drawn)}")
            for name in free:
                drawn.pop(name)

    def test_tops(self):
        for path, text, tree in self.each():
            self.assertTrue(ast.get_docstring(tree))
            for node in tree.body[1:]:
                self.assertIsInstance(node, (ast.ImportFrom, ast.FunctionDef, ast.ClassDef, ast.Assign))
            given = [node for node in tree.body if isinstance(node, ast.Assign)]
            bound = [target.id for node in given for target in node.targets]
            self.assertEqual(len(bound), len(set(bound)))
            for node in given:
                plain = (ast.Constant, ast.Tuple, ast.UnaryOp, ast.USub, ast.Load)
                self.assertEqual([part for part in ast.walk(node.value) if not isinstance(part, plain)], [])

    def test_parameters_and_locals_are_not_called_like_imports_or_classes(self):
        for path, text, tree in self.each():
            tops = {alias.name for node in tree.body if isinstance(node, ast.ImportFrom) for alias in node.names}
            tops |= {node.name for node in tree.body if isinstance(node, (ast.ClassDef, ast.FunctionDef))}
            for function in [node for node in ast.walk(tree) if isinstance(node, ast.FunctionDef)]:
                inner = {node.arg for node in ast.walk(function) if isinstance(node, ast.arg)}
                stored = [node for node in ast.walk(function) if isinstance(node, ast.Name)]
                inner |= {node.id for node in stored if isinstance(node.ctx, ast.Store)}
                self.assertEqual(inner & tops, set(), function.name)


if __name__ == "__main__":
    unittest.main()
