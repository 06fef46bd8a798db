"""The package keeps to the language that it is written in, as far as plain checks of its files can see."""

import ast
import builtins
import pathlib
import re
import unittest

PACKAGE = pathlib.Path(__file__).resolve().parent.parent / "keptmarks"

BUILTINS = set("""
len range enumerate zip min max sum abs sorted reversed int str bool list tuple dict set isinstance ord repr any all
divmod iter next map Exception ValueError TypeError KeyError IndexError LookupError ZeroDivisionError super property
staticmethod classmethod NotImplemented
""".split())

METHODS = set("""
append clear copy count endswith extend find get index insert isalnum isalpha isdigit islower isspace isupper items join
keys ljust lower lstrip partition pop remove replace reverse rfind rjust rpartition rsplit rstrip setdefault split
splitlines startswith strip update upper values zfill bit_length isascii add discard sort __init__
""".split())

STATEMENTS = (
    ast.Assign, ast.AugAssign, ast.If, ast.While, ast.For, ast.Return, ast.Break, ast.Continue, ast.Pass, ast.Raise,
    ast.Assert, ast.Delete, ast.Try, ast.Expr, ast.FunctionDef, ast.ClassDef, ast.ImportFrom,
)

BARRED_NAMES = set("""
register mro elements open input law version_info with_traceback add_note attrgetter breakpoint builtins compile
copyright credits delattr dir eval exec exit gc getattr globals hasattr help id importlib license locals methodcaller os
quit setattr vars sys
""".split())

BARRED_WORDS = re.compile(r"\b(type|typing|enum|Enum|Flag|Generic|Protocol|ABC|namedtuple)\b|_wall|_WallAttr|[%\r\t]")

LIBRARY = {"heapq", "math", "itertools", "collections"}


def files():
    """The files of the package with their trees."""
    return [(path, ast.parse(path.read_text())) for path in sorted(PACKAGE.rglob("*.py"))]


def bound_names(tree):
    """All names that a file binds."""
    for node in ast.walk(tree):
        if isinstance(node, (ast.FunctionDef, ast.ClassDef)):
            yield node.name
        elif isinstance(node, ast.arg):
            yield node.arg
        elif isinstance(node, ast.Name) and not isinstance(node.ctx, ast.Load):
            yield node.id
        elif isinstance(node, ast.alias):
            yield node.asname or node.name


def docstrings(tree):
    """The nodes of all docstrings of a file."""
    for node in ast.walk(tree):
        if isinstance(node, (ast.Module, ast.ClassDef, ast.FunctionDef)) and ast.get_docstring(node) is not None:
            yield node.body[0].value


class Language(unittest.TestCase):
    def test_folder(self):
        for path in PACKAGE.rglob("*"):
            if "__pycache__" not in path.parts:
                self.assertRegex(path.name, r"^([a-z][a-z0-9]*|__init__|__main__)\.py$")

    def test_sizes_and_characters(self):
        for path, tree in files():
            text = path.read_text(encoding="utf-8")
            self.assertRegex(text, r"\A[ -~\n]*\Z", path.name)
            lines = text.split("\n")
            self.assertLessEqual(len(lines), 399, path.name)
            self.assertLessEqual(max(len(line) for line in lines), 120, path.name)
            for node in ast.walk(tree):
                if isinstance(node, ast.FunctionDef):
                    self.assertLessEqual(node.end_lineno - node.lineno + 1, 40, node.name)
                    self.assertIsNotNone(ast.get_docstring(node) or node.name == "__init__" or None, node.name)

    def test_imports(self):
        defined = {}
        imported = {}
        for path, tree in files():
            module = "keptmarks." + path.stem
            plain = [node.targets[0].id for node in tree.body if isinstance(node, ast.Assign)]
            defined[module] = plain + [
                node.name for node in tree.body if isinstance(node, (ast.FunctionDef, ast.ClassDef))]
            imported[module] = [node for node in ast.walk(tree) if isinstance(node, (ast.Import, ast.ImportFrom))]
        reached = {module: set() for module in defined}
        for module, nodes in imported.items():
            for node in nodes:
                self.assertIsInstance(node, ast.ImportFrom, module)
                if node.module in LIBRARY:
                    continue
                reached[module].add(node.module)
                for alias in node.names:
                    self.assertIn(alias.name, defined[node.module], module)
                    self.assertIsNone(alias.asname)
        for _ in reached:
            for module in reached:
                reached[module] |= {further for other in reached[module] for further in reached[other]}
        for module, others in reached.items():
            self.assertNotIn(module, others)

    def test_each_import_is_used_and_each_name_bound_once(self):
        for path, tree in files():
            read = {node.id for node in ast.walk(tree) if isinstance(node, ast.Name)}
            names = []
            for node in tree.body:
                if isinstance(node, ast.ImportFrom):
                    names.extend(alias.name for alias in node.names)
                    self.assertLessEqual({alias.name for alias in node.names}, read, path.name)
                elif isinstance(node, (ast.FunctionDef, ast.ClassDef)):
                    names.append(node.name)
                elif isinstance(node, ast.Assign):
                    names.append(node.targets[0].id)
            self.assertEqual(len(names), len(set(names)), path.name)

    def test_module_level(self):
        for path, tree in files():
            for node in tree.body:
                if isinstance(node, ast.Expr):
                    self.assertIs(node, tree.body[0], path.name)
                else:
                    self.assertIsInstance(node, (ast.ImportFrom, ast.FunctionDef, ast.ClassDef, ast.Assign), path.name)
                if isinstance(node, ast.Assign):
                    self.assertEqual(len(node.targets), 1)
                    self.check_plain(node.value, path, node.lineno)

    def check_plain(self, value, path, line, inner=False):
        """A plain value: a tuple, or a dict on its own, of plain values and of functions that are defined above."""
        if isinstance(value, ast.Tuple):
            for item in value.elts:
                self.check_plain(item, path, line, True)
        elif isinstance(value, ast.Dict):
            self.assertFalse(inner, path.name)
            for item in value.keys + value.values:
                self.check_plain(item, path, line, True)
        elif isinstance(value, ast.Name):
            above = ast.parse("\n".join(path.read_text().split("\n")[:line - 1])).body
            self.assertIn(value.id, [node.name for node in above if isinstance(node, ast.FunctionDef)], path.name)
        else:
            self.assertIsInstance(ast.literal_eval(value), (int, str, type(None)), path.name)

    def test_dicts_at_module_level_are_only_read(self):
        tables = set()
        for path, tree in files():
            for node in tree.body:
                if isinstance(node, ast.Assign) and isinstance(node.value, ast.Dict):
                    tables.add(node.targets[0].id)
        for path, tree in files():
            indexed = [node.value for node in ast.walk(tree)
                       if isinstance(node, ast.Subscript) and isinstance(node.ctx, ast.Load)]
            for node in ast.walk(tree):
                if isinstance(node, ast.Name) and isinstance(node.ctx, ast.Load) and node.id in tables:
                    self.assertIn(node, indexed, (path.name, node.id))
            for node in ast.walk(tree):
                # A function from a table is given a name ahead of its call.
                if isinstance(node, ast.Call):
                    self.assertIsInstance(node.func, (ast.Name, ast.Attribute), path.name)

    def test_statements_and_names(self):
        own = {node.name for path, tree in files() for node in ast.walk(tree) if isinstance(node, ast.FunctionDef)}
        for path, tree in files():
            names = set(bound_names(tree))
            self.assertFalse((names & set(dir(builtins))) - {"__init__", "__eq__"}, path.name)
            self.assertFalse(names & BARRED_NAMES, path.name)
            for node in ast.walk(tree):
                if isinstance(node, ast.stmt):
                    self.assertIsInstance(node, STATEMENTS, path.name)
                if isinstance(node, ast.Name) and node.id not in names:
                    self.assertIn(node.id, BUILTINS, path.name)
                if isinstance(node, ast.Name) and node.id == "_":
                    self.assertIsInstance(node.ctx, ast.Store, path.name)
                if isinstance(node, ast.Call) and isinstance(node.func, ast.Attribute):
                    self.assertIn(node.func.attr, METHODS | own, path.name)
                self.assertNotIsInstance(node, ast.Div, path.name)

    def test_what_a_class_with_eq_bars(self):
        # Such a class is in the package: no generator expressions, and no handlers but for own errors.
        own = {node.name for path, tree in files() for node in tree.body if isinstance(node, ast.ClassDef)}
        for path, tree in files():
            for node in ast.walk(tree):
                self.assertNotIsInstance(node, (ast.GeneratorExp, ast.Yield, ast.YieldFrom, ast.Lambda), path.name)
                if isinstance(node, ast.ExceptHandler):
                    self.assertIsInstance(node.type, ast.Name, path.name)
                    self.assertIn(node.type.id, own, path.name)
                if isinstance(node, ast.Compare) and any(isinstance(sign, (ast.Is, ast.IsNot)) for sign in node.ops):
                    self.assertTrue(all(isinstance(side, ast.Constant) for side in node.comparators), path.name)

    def test_names_of_classes(self):
        methods, properties, stored = {}, set(), {}
        for path, tree in files():
            for node in tree.body:
                if not isinstance(node, ast.ClassDef):
                    continue
                for one in node.body:
                    if isinstance(one, ast.FunctionDef):
                        (properties.add if one.decorator_list else methods.setdefault(one.name, []).append)(
                            one.name if one.decorator_list else node.name)
                for one in ast.walk(node):
                    if isinstance(one, ast.Attribute) and isinstance(one.ctx, ast.Store):
                        stored.setdefault(one.attr, set()).add(node.name)
        self.assertFalse(properties & set(methods))
        self.assertFalse(properties & set(stored))
        self.assertFalse(set(stored) & set(methods))
        for name in properties | set(stored) | set(methods) - {"__init__", "__eq__"}:
            self.assertFalse(any(hasattr(value, name) for value in ("", 0, [], {}, (), set(), b"")), name)
        # What is read off an object is stored by some class, or a property, or a method that is called.
        for path, tree in files():
            for node in ast.walk(tree):
                if isinstance(node, ast.Attribute) and isinstance(node.ctx, ast.Load):
                    self.assertIn(node.attr, properties | set(stored) | set(methods) | METHODS, path.name)

    def test_arguments_of_own_calls(self):
        takes = {node.name: len(node.args.args) for path, tree in files() for node in tree.body
                 if isinstance(node, ast.FunctionDef)}
        for path, tree in files():
            for node in ast.walk(tree):
                if isinstance(node, ast.Call) and isinstance(node.func, ast.Name) and node.func.id in takes:
                    self.assertEqual(len(node.args) + len(node.keywords), takes[node.func.id], node.func.id)

    def test_strings(self):
        for path, tree in files():
            told = [node for node in docstrings(tree)]
            for node in ast.walk(tree):
                if isinstance(node, ast.Constant) and node not in told:
                    self.assertNotIsInstance(node.value, (float, complex, bytes))
                    if isinstance(node.value, str):
                        self.assertIsNone(BARRED_WORDS.search(node.value), (path.name, node.value))
                if isinstance(node, (ast.FunctionDef, ast.ClassDef)):
                    for mark in node.decorator_list:
                        self.assertIn(ast.unparse(mark).split(".")[-1], ("property", "staticmethod", "classmethod"))
