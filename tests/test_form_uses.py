"""Holds the package's files to how names, values and Python's own are used there; narrower than asked, where easier."""

import ast
import builtins
import functools
import re
import unittest

from test_form import DOUBLE, FILES, METHODS, OWN_OF_PYTHON, tree_of, walked

NOT_AS_NAMES = """attrgetter breakpoint builtins compile copyright credits delattr dir eval exec exit gc getattr globals
hasattr help id importlib license locals methodcaller os quit setattr super type vars sys""".split()
FRAME_WORDS = re.compile(r"(f|tb|co|gi|cr|ag)_[a-z]+")
READING = "len list dict tuple sorted min max sum any all zip enumerate reversed".split()
WALKING = "list tuple dict sorted sum any all enumerate zip".split()
ON_THE_SPOT = "zip enumerate reversed range".split()
KEYS = "len int str abs sum min max tuple".split()
KEYWORDS = {
    "sorted": ("key", "reverse"), "min": ("key", "default"), "max": ("key", "default"), "sum": ("start",),
    "enumerate": ("start",), "zip": ("strict",),
}
ERRORS_TAKEN = ("KeyError", "ZeroDivisionError", "StopIteration")
FUNCTIONS_OF_PYTHON = [name for name in OWN_OF_PYTHON if not name[0].isupper()]


def with_parents():
    """Each file's name, each thing in it, and what it stands in."""
    for path in FILES:
        for parent in ast.walk(tree_of(path)):
            for node in ast.iter_child_nodes(parent):
                yield path.name, node, parent


def is_call_of(node, names):
    return isinstance(node, ast.Call) and isinstance(node.func, ast.Name) and node.func.id in names


@functools.cache
def tops(kinds):
    """The names that a file gives to values of these kinds at its top, by file."""
    found = {}
    for path in FILES:
        for node in tree_of(path).body:
            if isinstance(node, ast.Assign) and isinstance(node.value, kinds):
                found.setdefault(path.name, []).append(node.targets[0].id)
    return found


@functools.cache
def own_classes():
    return [node.name for name, node in walked(ast.ClassDef)]


def is_plain(node):
    if isinstance(node, ast.UnaryOp):
        return isinstance(node.op, ast.USub) and is_plain(node.operand)
    if isinstance(node, (ast.List, ast.Tuple)):
        return all(is_plain(part) for part in node.elts)
    if isinstance(node, ast.Dict):
        return all(is_plain(part) for part in node.keys + node.values)
    return isinstance(node, ast.Constant)


class Uses(unittest.TestCase):
    def test_values_at_the_top(self):
        for path in FILES:
            for node in tree_of(path).body:
                if isinstance(node, ast.Assign):
                    self.assertTrue(is_plain(node.value), (path.name, node.lineno))
                    inner = [part for part in ast.walk(node.value) if part is not node.value]
                    self.assertFalse([part for part in inner if isinstance(part, (ast.List, ast.Dict))], path.name)

    def test_lists_and_dicts_of_the_top_are_only_read(self):
        kept = tops((ast.List, ast.Dict))
        for name, node, parent in with_parents():
            if not (isinstance(node, ast.Name) and isinstance(node.ctx, ast.Load) and node.id in kept.get(name, [])):
                continue
            where = (name, node.lineno, node.id)
            if isinstance(parent, ast.Subscript):
                self.assertIsInstance(parent.ctx, ast.Load, where)
            elif isinstance(parent, ast.Attribute):
                self.assertIn(parent.attr, ("get", "items", "keys", "values", "index", "count"), where)
            elif isinstance(parent, ast.Call):
                self.assertTrue(is_call_of(parent, READING), where)
            else:
                self.assertIsInstance(parent, (ast.Compare, ast.For, ast.comprehension), where)
        for name, node in walked(ast.ImportFrom):
            there = tops((ast.List, ast.Dict)).get(node.module.split(".")[1] + ".py", [])
            self.assertFalse([one.name for one in node.names if one.name in there], name)

    def test_classes_are_called_or_raised_or_stand_under(self):
        for name, node, parent in with_parents():
            if isinstance(node, ast.Name) and node.id in own_classes():
                base = isinstance(parent, ast.ClassDef) and node in parent.bases
                init = isinstance(parent, ast.Attribute) and parent.attr == "__init__"
                called = isinstance(parent, ast.Call) and (parent.func is node or is_call_of(parent, ["isinstance"]))
                self.assertTrue(base or init or called or isinstance(parent, ast.ExceptHandler), (name, node.lineno))

    def test_bases(self):
        for name, node in walked(ast.ClassDef):
            for base in node.bases:
                of_python = getattr(builtins, base.id, None)
                self.assertTrue(base.id in own_classes() or issubclass(of_python, Exception), (name, node.name))
                self.assertNotIn(base.id, ("StopIteration", "AttributeError"), (name, node.name))

    def test_values_are_given_through_a_local_name(self):
        for name, node in walked((ast.Attribute, ast.Subscript)):
            if isinstance(node.ctx, ast.Store):
                given = node.value
                while isinstance(given, (ast.Attribute, ast.Subscript)):
                    given = given.value
                self.assertIsInstance(given, ast.Name, (name, node.lineno))
                self.assertNotIn(given.id, own_classes(), (name, node.lineno))
                self.assertNotIn(given.id, tops(ast.AST).get(name, []), (name, node.lineno))

    def test_errors(self):
        for name, node in walked(ast.Raise):
            self.assertIsInstance(node.exc, ast.Call, (name, node.lineno))
            self.assertIsInstance(node.exc.func, ast.Name, (name, node.lineno))
        for name, node in walked(ast.ExceptHandler):
            self.assertIsInstance(node.type, ast.Name, (name, node.lineno))
            self.assertIn(node.type.id, list(ERRORS_TAKEN) + own_classes(), (name, node.lineno))

    def test_no_annotations(self):
        for name, node in walked((ast.arg, ast.FunctionDef, ast.AnnAssign)):
            self.assertNotIsInstance(node, ast.AnnAssign, name)
            self.assertIsNone(getattr(node, "annotation", None), name)
            self.assertIsNone(getattr(node, "returns", None), name)

    def test_defaults(self):
        for name, node in walked(ast.arguments):
            for default in node.defaults:
                self.assertIsInstance(default, ast.Constant, name)

    def test_pythons_own_are_called(self):
        for name, node, parent in with_parents():
            if isinstance(node, ast.Name) and node.id in FUNCTIONS_OF_PYTHON:
                where = (name, node.lineno, node.id)
                if isinstance(parent, ast.keyword):
                    self.assertEqual(parent.arg, "key", where)
                    self.assertIn(node.id, KEYS, where)
                elif not is_call_of(parent, ["isinstance"]):
                    self.assertTrue(isinstance(parent, ast.Call) and parent.func is node, where)

    def test_keywords(self):
        for name, node in walked(ast.Call):
            for word in node.keywords:
                self.assertIsInstance(node.func, ast.Name, (name, node.lineno))
                self.assertIn(word.arg, KEYWORDS.get(node.func.id, ()), (name, node.lineno))

    def test_walked_on_the_spot(self):
        for name, node, parent in with_parents():
            of_dict = isinstance(node, ast.Call) and isinstance(node.func, ast.Attribute)
            if is_call_of(node, ON_THE_SPOT) or (of_dict and node.func.attr in ("items", "keys", "values")):
                where = (name, node.lineno)
                if is_call_of(parent, WALKING):
                    self.assertTrue(node is parent.args[0] or parent.func.id == "zip", where)
                elif is_call_of(parent, ("min", "max")):
                    self.assertEqual(parent.args, [node], where)
                else:
                    self.assertIsInstance(parent, (ast.For, ast.comprehension), where)
                    self.assertIs(parent.iter, node, where)

    def test_no_sets(self):
        for name, node in walked((ast.Set, ast.Name)):
            self.assertNotIsInstance(node, ast.Set, name)
            self.assertNotIn(node.id, ("set", "frozenset"), (name, node.lineno))

    def test_methods_are_called_where_they_stand(self):
        own = [part.name for name, node in walked(ast.ClassDef) for part in node.body if hasattr(part, "name")]
        values = [node.attr for name, node in walked(ast.Attribute) if isinstance(node.ctx, ast.Store)]
        for name, node, parent in with_parents():
            if isinstance(node, ast.Attribute) and node.attr in own + METHODS and node.attr not in values:
                called = isinstance(parent, ast.Call) and parent.func is node
                self.assertTrue(called or isinstance(parent, ast.keyword), (name, node.lineno))

    def test_names_that_are_not_used(self):
        for name, node in walked((ast.Name, ast.arg, ast.Attribute, ast.FunctionDef)):
            word = [part for part in (getattr(node, key, None) for key in ("id", "arg", "attr", "name")) if part][0]
            self.assertIsNone(FRAME_WORDS.fullmatch(word), (name, word))
            if not isinstance(node, ast.Attribute):
                self.assertNotIn(word, NOT_AS_NAMES, name)
            self.assertTrue(word in DOUBLE or not word.startswith("_"), (name, word))

    def test_numbers_and_texts(self):
        for name, node in walked(ast.BinOp):
            if isinstance(node.op, ast.Pow):
                self.assertIsInstance(node.right, ast.Constant, (name, node.lineno))
                self.assertTrue(0 <= node.right.value <= 64, (name, node.lineno))
        for path in FILES:
            self.assertIsNone(re.search(r"\\[^nt\\'\"]", path.read_text(encoding="ascii")), path.name)
        for name, node in walked(ast.FormattedValue):
            self.assertIsInstance(node.value, ast.Name, (name, node.lineno))
            self.assertIsNone(node.format_spec, (name, node.lineno))

    def test_functions_stand_at_the_top_or_in_a_class(self):
        for name, node, parent in with_parents():
            if isinstance(node, (ast.FunctionDef, ast.ClassDef)):
                kinds = ast.Module if isinstance(node, ast.ClassDef) else (ast.Module, ast.ClassDef)
                self.assertIsInstance(parent, kinds, (name, node.lineno))

    def test_making_an_object_gives_back_nothing(self):
        for name, node in walked(ast.FunctionDef):
            if node.name == "__init__":
                self.assertFalse([part for part in ast.walk(node) if isinstance(part, ast.Return)], (name, node.lineno))
            elif node.name in DOUBLE:
                self.fail((name, node.lineno))


if __name__ == "__main__":
    unittest.main()
