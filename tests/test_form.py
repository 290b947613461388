"""Holds the package's files to the part of Python that the program keeps to, as far as a look at them tells."""

import ast
import builtins
import functools
import pathlib
import re
import unittest

FOLDER = pathlib.Path(__file__).resolve().parent.parent / "lookspare"
FILES = sorted(path for path in FOLDER.iterdir() if path.name != "__pycache__")

NODES = """Module Import ImportFrom alias FunctionDef arguments arg Lambda ClassDef Return Assign AugAssign AnnAssign
If While For Break Continue Pass Raise Try ExceptHandler Expr Constant List Tuple Dict Set BinOp UnaryOp BoolOp
Compare IfExp Call keyword Attribute Subscript Slice Name ListComp comprehension JoinedStr FormattedValue Load Store
Add Sub Mult FloorDiv Mod Pow BitAnd BitOr BitXor LShift RShift Invert USub UAdd Not And Or
Eq NotEq Lt LtE Gt GtE Is IsNot In NotIn""".split()
OWN_OF_PYTHON = """len range enumerate zip min max sum abs sorted reversed int str bool list tuple dict set frozenset
isinstance ord repr any all divmod Exception ValueError TypeError KeyError IndexError LookupError ZeroDivisionError
ArithmeticError OverflowError RuntimeError NotImplementedError AttributeError StopIteration""".split()
METHODS = """append clear copy count endswith extend find get index insert isalnum isalpha isdigit islower isspace
isupper items join keys ljust lower lstrip partition pop remove replace reverse rfind rjust rpartition rsplit rstrip
setdefault split splitlines startswith strip update upper values zfill bit_length __init__""".split()
DOUBLE = ("__init__", "__eq__", "__repr__", "__str__", "__len__")
NO_WORDS = re.compile(
    r"\b(type|typing|typing_extensions|enum|Enum|IntEnum|StrEnum|Flag|IntFlag|Generic|Protocol|ABC|ABCMeta|namedtuple"
    r"|NamedTuple|TypedDict|TYPE_CHECKING|abstractmethod)\b|dataclass|overload|contextmanager"
)
NO_NAMES = """register mro elements open input version_info with_traceback add_note format format_map""".split()
NO_VALUES = """items keys values pop update append clear extend insert remove reverse setdefault sort args encode
format""".split()
FREE_VALUES = "count index title find get join lower upper split strip copy add".split()
CHANGING = "append clear extend insert pop remove reverse setdefault update".split()
PLAIN = re.compile(r"[A-Za-z][A-Za-z0-9_]*")


@functools.cache
def tree_of(path):
    return ast.parse(path.read_text(encoding="ascii"))


def walked(kind):
    for path in FILES:
        for node in ast.walk(tree_of(path)):
            if isinstance(node, kind):
                yield path.name, node


def defined(path):
    names = []
    for node in tree_of(path).body:
        if isinstance(node, (ast.FunctionDef, ast.ClassDef)):
            names.append(node.name)
        if isinstance(node, ast.Assign):
            names.append(node.targets[0].id)
    return names


class Form(unittest.TestCase):
    def test_files(self):
        self.assertIn("__init__.py", [path.name for path in FILES])
        for path in FILES:
            self.assertRegex(path.name, r"\A(__init__|[a-z][a-z0-9_]*)\.py\Z")
            self.assertNotIn(path.stem, dir(builtins))
            self.assertNotRegex(path.stem, r"\A(test.*|site|conftest|sitecustomize|usercustomize)\Z")

    def test_signs_and_sizes(self):
        for path in FILES:
            text = path.read_bytes().decode("ascii")
            self.assertRegex(text, r"\A[ -~\n]*\Z", path.name)
            self.assertIsNone(NO_WORDS.search(text), path.name)
            self.assertLessEqual(len(text.split("\n")), 400, path.name)
            for row in text.split("\n"):
                self.assertLessEqual(len(row), 120, (path.name, row))
        for name, node in walked(ast.FunctionDef):
            self.assertLessEqual(node.end_lineno - node.lineno + 1, 40, (name, node.name))

    def test_statements_and_expressions(self):
        for name, node in walked(ast.AST):
            where = (name, getattr(node, "lineno", None), ast.dump(node)[:200])
            self.assertIn(type(node).__name__, NODES, where)
            if isinstance(node, ast.Assign):
                self.assertEqual(len(node.targets), 1, where)
            if isinstance(node, (ast.For, ast.While)):
                self.assertEqual(node.orelse, [], where)
            if isinstance(node, ast.Try):
                self.assertEqual(node.finalbody, [], where)
            if isinstance(node, ast.ListComp):
                self.assertEqual(len(node.generators), 1, where)
                self.assertLessEqual(len(node.generators[0].ifs), 1, where)
            if isinstance(node, (ast.FunctionDef, ast.ClassDef)):
                self.assertEqual(node.decorator_list, [], where)
            if isinstance(node, ast.arguments):
                self.assertFalse(node.vararg or node.kwarg or node.kwonlyargs or node.posonlyargs, where)
            if isinstance(node, ast.Constant):
                self.assertIn(type(node.value), (int, str, bool, type(None)), where)
                self.assertNotIn("%", str(node.value), where)

    def test_is_stands_beside_none_and_truths(self):
        for name, node in walked(ast.Compare):
            for left, sign, right in zip([node.left] + node.comparators, node.ops, node.comparators):
                if isinstance(sign, (ast.Is, ast.IsNot)):
                    values = [side.value for side in (left, right) if isinstance(side, ast.Constant)]
                    self.assertTrue([v for v in values if v is None or v is True or v is False], (name, node.lineno))

    def test_the_top_of_a_file(self):
        for path in FILES:
            body = tree_of(path).body
            self.assertIsNotNone(ast.get_docstring(tree_of(path)), path.name)
            for node in body[1:]:
                self.assertIsInstance(node, (ast.ImportFrom, ast.FunctionDef, ast.ClassDef, ast.Assign), path.name)
            self.assertEqual(len(defined(path)), len(set(defined(path))), path.name)

    def test_imports(self):
        drawn = {}
        for name, node in walked((ast.Import, ast.ImportFrom)):
            self.assertIsInstance(node, ast.ImportFrom, name)
            self.assertEqual(node.level, 0, name)
            self.assertRegex(node.module, r"\Alookspare\.[a-z0-9_]+\Z", name)
            source = FOLDER / (node.module.split(".")[1] + ".py")
            drawn.setdefault(name, []).append(source.name)
            for one in node.names:
                self.assertIn(one.name, defined(source), name)
        for name in drawn:
            reached = list(drawn[name])
            for source in reached:
                reached.extend(one for one in drawn.get(source, []) if one not in reached)
            self.assertNotIn(name, reached)

    def test_names(self):
        bound = [(name, node.name) for name, node in walked((ast.FunctionDef, ast.ClassDef))]
        bound += [(name, node.arg) for name, node in walked(ast.arg)]
        bound += [(name, node.id) for name, node in walked(ast.Name) if isinstance(node.ctx, ast.Store)]
        for name, word in bound:
            if word not in DOUBLE:
                self.assertTrue(PLAIN.fullmatch(word), (name, word))
                self.assertNotIn(word, dir(builtins), name)
                self.assertNotIn(word, NO_NAMES, name)
        for name, node in walked(ast.Name):
            if node.id in dir(builtins):
                self.assertIn(node.id, OWN_OF_PYTHON, (name, node.lineno))

    def test_calls_alone_stand_by_themselves(self):
        for path in FILES:
            docstring = tree_of(path).body[0]
            for name, node in [pair for pair in walked(ast.Expr) if pair[0] == path.name]:
                if node.lineno != docstring.lineno:
                    self.assertIsInstance(node.value, ast.Call, (name, node.lineno))

    def test_no_local_is_called_like_an_import_or_a_class(self):
        for path in FILES:
            tree = tree_of(path)
            taken = [one.name for node in tree.body if isinstance(node, ast.ImportFrom) for one in node.names]
            taken += [node.name for node in tree.body if isinstance(node, ast.ClassDef)]
            for node in ast.walk(tree):
                if isinstance(node, ast.arg):
                    self.assertNotIn(node.arg, taken, path.name)
                if isinstance(node, ast.Name) and isinstance(node.ctx, ast.Store):
                    self.assertNotIn(node.id, taken, (path.name, node.lineno))

    def test_methods_and_values_of_classes(self):
        methods = []
        for name, node in walked(ast.ClassDef):
            own = [part.name for part in node.body if isinstance(part, ast.FunctionDef)]
            self.assertEqual(len(own), len(set(own)), (name, node.name))
            self.assertLessEqual(len(node.bases), 1, (name, node.name))
            for part in node.body:
                self.assertIsInstance(part, (ast.FunctionDef, ast.Pass), (name, node.name))
            methods += own
        of_python = {word for kind in (str, int, list, tuple, dict, set, bytes) for word in dir(kind)}
        for name, node in walked(ast.Attribute):
            if isinstance(node.ctx, ast.Store):
                self.assertNotIn(node.attr, methods, (name, node.lineno))
                self.assertNotIn(node.attr, NO_VALUES, (name, node.lineno))
                self.assertTrue(node.attr not in of_python or node.attr in FREE_VALUES, (name, node.lineno))
        for method in methods:
            self.assertTrue(method in DOUBLE or method in METHODS or method not in of_python, method)

    def test_what_a_loop_walks_is_not_changed_in_it(self):
        for name, loop in walked(ast.For):
            words = [ast.dump(node) for node in ast.walk(loop.iter) if isinstance(node, (ast.Name, ast.Attribute))]
            for node in [node for part in loop.body for node in ast.walk(part)]:
                if isinstance(node, ast.Subscript) and isinstance(node.ctx, ast.Store):
                    self.assertNotIn(ast.dump(node.value), words, (name, node.lineno))
                if isinstance(node, ast.Call) and isinstance(node.func, ast.Attribute) and node.func.attr in CHANGING:
                    self.assertNotIn(ast.dump(node.func.value), words, (name, node.lineno))

    def test_methods(self):
        own = [node.name for name, node in walked(ast.FunctionDef)]
        for name, node in walked(ast.Call):
            if isinstance(node.func, ast.Attribute):
                self.assertIn(node.func.attr, METHODS + own, (name, node.lineno))
        for name, node in walked(ast.Attribute):
            self.assertNotIn(node.attr, NO_NAMES, (name, node.lineno))


if __name__ == "__main__":
    unittest.main()
