"""The package's own files keep to the part of Python that LANGUAGE.md tells, as far as a test can see."""

import ast
import builtins
import os
import re
import unittest

PACKAGE = os.path.join(os.path.dirname(os.path.dirname(os.path.abspath(__file__))), "orderkeep")
BUILTINS = set(dir(builtins))
ALLOWED_BUILTINS = set(
    """len range enumerate zip min max sum abs sorted reversed int str bool list tuple dict set frozenset isinstance ord
    repr any all divmod Exception ValueError TypeError KeyError IndexError LookupError ZeroDivisionError ArithmeticError
    OverflowError RuntimeError NotImplementedError AttributeError StopIteration""".split())
ALLOWED_METHODS = set(
    """append clear copy count endswith extend find get index insert isalnum isalpha isdigit islower isspace isupper
    items join keys ljust lower lstrip partition pop remove replace reverse rfind rjust rpartition rsplit rstrip
    setdefault split splitlines startswith strip update upper values zfill bit_length""".split())
TWO_UNDERSCORES = {"__init__", "__eq__", "__repr__", "__str__", "__len__"}
WALKED = {"zip", "enumerate", "reversed", "range"}
NEVER_WORDS = set(
    """type typing typing_extensions enum Enum IntEnum StrEnum Flag IntFlag Generic Protocol ABC ABCMeta namedtuple
    NamedTuple TypedDict TYPE_CHECKING abstractmethod""".split())
NEVER_PARTS = ["dataclass", "overload", "contextmanager"]
NEVER_VALUES = set(
    """items keys values pop update append clear extend insert remove reverse setdefault sort args encode
    format""".split())
NEVER_NAMES = set("register mro elements open input version_info with_traceback add_note".split())
ALLOWED_NODES = tuple(
    getattr(ast, name) for name in
    """Module FunctionDef ClassDef Return Assign AugAssign For While If Raise Try ExceptHandler ImportFrom alias Expr
    Pass Break Continue BoolOp BinOp UnaryOp Lambda IfExp Dict ListComp comprehension Compare Call JoinedStr
    FormattedValue Constant Attribute Subscript Name List Tuple Slice arguments arg keyword boolop operator unaryop
    cmpop expr_context""".split())


def files():
    return sorted(name for name in os.listdir(PACKAGE) if name != "__pycache__")


def source(name):
    with open(os.path.join(PACKAGE, name), encoding="utf-8", newline="") as opened:
        return opened.read()


def trees():
    return {name: ast.parse(source(name)) for name in files()}


def top_names(tree):
    names = []
    for node in tree.body:
        if isinstance(node, (ast.FunctionDef, ast.ClassDef)):
            names.append(node.name)
        elif isinstance(node, ast.Assign):
            names.append(node.targets[0].id)
    return names


def imports(tree):
    return [node for node in ast.walk(tree) if isinstance(node, ast.ImportFrom)]


def plain_value(node):
    if isinstance(node, (ast.List, ast.Tuple)):
        return all(plain_value(part) for part in node.elts)
    if isinstance(node, ast.Dict):
        return all(plain_value(part) for part in node.keys + node.values)
    if isinstance(node, ast.UnaryOp):
        return plain_value(node.operand)
    return isinstance(node, (ast.Constant, ast.Name))


def one_plain_value(node):
    if isinstance(node, ast.UnaryOp) and isinstance(node.op, ast.USub):
        return isinstance(node.operand, ast.Constant) and node.operand.value.__class__ == int
    return isinstance(node, ast.Constant) and node.value.__class__ in (int, str, bool, None.__class__)


def wrong_defaults(tree):
    """The rows of the defaults, of defs, methods and lambdas, that are not one whole number, text, truth or None."""
    rows = []
    for node in ast.walk(tree):
        if isinstance(node, ast.arguments):
            defaults = node.defaults + [part for part in node.kw_defaults if part is not None]
            rows.extend(part.lineno for part in defaults if not one_plain_value(part))
    return sorted(rows)


class FilesTest(unittest.TestCase):
    def test_plain_files_alone(self):
        self.assertIn("__init__.py", files())
        for name in files():
            self.assertRegex(name, r"^(__init__|[a-z][a-z0-9_]*)\.py$")
            self.assertNotIn(name[:-3], BUILTINS)
            self.assertNotRegex(name, r"^(test|tests|testing|test_.*|site|conftest|sitecustomize|usercustomize)\.py$")

    def test_signs_and_sizes(self):
        for name in files():
            text = source(name)
            self.assertRegex(text, r"\A[ -~\n]*\Z", name)
            rows = text.split("\n")
            self.assertLessEqual(len(rows), 401, name)
            self.assertLessEqual(max(len(row) for row in rows), 120, name)

    def test_words_that_stand_nowhere(self):
        for name in files():
            words = set(re.findall(r"\w+", source(name)))
            self.assertEqual(words & NEVER_WORDS, set(), name)
            self.assertEqual([part for part in NEVER_PARTS if part in source(name)], [], name)

    def test_the_top_of_a_file(self):
        for name, tree in trees().items():
            self.assertIsNotNone(ast.get_docstring(tree), name)
            for node in tree.body[1:]:
                self.assertIsInstance(node, (ast.ImportFrom, ast.FunctionDef, ast.ClassDef, ast.Assign), name)
                if isinstance(node, ast.Assign):
                    self.assertTrue(plain_value(node.value), (name, node.lineno))
            bound = top_names(tree) + [alias.name for node in imports(tree) for alias in node.names]
            self.assertEqual(len(bound), len(set(bound)), name)


class ImportsTest(unittest.TestCase):
    def test_from_the_file_that_defines_the_name(self):
        defined = {"orderkeep." + name[:-3]: top_names(tree) for name, tree in trees().items()}
        for name, tree in trees().items():
            for node in imports(tree):
                self.assertIn(node, tree.body, (name, node.lineno))
                self.assertEqual(node.level, 0, (name, node.lineno))
                self.assertIn(node.module, defined, (name, node.lineno))
                for alias in node.names:
                    self.assertIn(alias.name, defined[node.module], (name, node.lineno))
                    self.assertIsNone(alias.asname, (name, node.lineno))

    def test_no_two_files_draw_from_one_another(self):
        drawn = {name[:-3]: [node.module.split(".")[-1] for node in imports(tree)] for name, tree in trees().items()}
        left = dict(drawn)
        while left:
            free = [name for name in left if not any(other in left for other in left[name])]
            self.assertNotEqual(free, [], left)
            left = {name: left[name] for name in left if name not in free}

    def test_the_package_file_binds_nothing(self):
        tree = trees()["__init__.py"]
        self.assertEqual(top_names(tree), [])
        self.assertEqual(imports(tree), [])


class CodeTest(unittest.TestCase):
    def each_node(self):
        for name, tree in trees().items():
            for node in ast.walk(tree):
                yield node, (name, getattr(node, "lineno", 0)), tree

    def test_allowed_forms_alone(self):
        for node, where, tree in self.each_node():
            self.assertIsInstance(node, ALLOWED_NODES, where)
            self.assertNotIsInstance(node, (ast.Div, ast.MatMult), where)
            if isinstance(node, ast.Assign):
                self.assertEqual(len(node.targets), 1, where)
            if isinstance(node, (ast.For, ast.While)):
                self.assertEqual(node.orelse, [], where)
            if isinstance(node, ast.Try):
                self.assertEqual(node.finalbody, [], where)
            if isinstance(node, ast.ListComp):
                self.assertEqual(len(node.generators), 1, where)
                self.assertLessEqual(len(node.generators[0].ifs), 1, where)
            if isinstance(node, ast.Constant):
                self.assertIn(node.value.__class__, (int, str, bool, None.__class__), where)
                self.assertNotIn("%", str(node.value), where)
            if isinstance(node, ast.FormattedValue):
                self.assertIsInstance(node.value, ast.Name, where)
                self.assertIsNone(node.format_spec, where)
            if isinstance(node, ast.Expr) and node != tree.body[0]:
                self.assertIsInstance(node.value, ast.Call, where)

    def test_defs_and_classes(self):
        for node, where, tree in self.each_node():
            if isinstance(node, ast.FunctionDef):
                self.assertLessEqual(node.end_lineno - node.lineno + 1, 40, where)
                self.assertEqual(node.decorator_list, [], where)
                self.assertIsNone(node.args.vararg or node.args.kwarg, where)
                self.assertEqual(node.args.kwonlyargs + node.args.posonlyargs, [], where)
                self.assertIsNone(node.returns, where)
            if isinstance(node, ast.arg):
                self.assertIsNone(node.annotation, where)
            if isinstance(node, ast.ClassDef):
                self.assertIn(node, tree.body, where)
                self.assertEqual(node.decorator_list + node.keywords, [], where)
                self.assertLessEqual(len(node.bases), 1, where)
                for part in node.body:
                    self.assertIsInstance(part, (ast.FunctionDef, ast.Pass), where)

    def test_defaults_are_one_plain_value_each(self):
        for name, tree in trees().items():
            self.assertEqual(wrong_defaults(tree), [], name)

    def test_the_look_at_defaults(self):
        for default in ("0", "60", "-1", "''", "'first'", "True", "False", "None"):
            for text in (f"def a(b, c={default}):\n    pass", f"class A:\n    def b(self, c={default}):\n        pass"):
                self.assertEqual(wrong_defaults(ast.parse(text)), [], text)
        for default in ("()", "(1,)", "((('', ()),), (), (), ())", "[]", "{}", "{'a': 1}", "EMPTY", "a.b", "len('')",
                        "1 + 1", "-EMPTY", "-True", "not True", "1.5", "b''", "...", "f'{a}'", "lambda: 1"):
            self.assertEqual(wrong_defaults(ast.parse(f"def a(b, c={default}):\n    pass")), [1], default)
            self.assertEqual(wrong_defaults(ast.parse(f"def a(b=1, *, c={default}):\n    pass")), [1], default)
            self.assertEqual(wrong_defaults(ast.parse(f"a = lambda b={default}: b")), [1], default)
            inner = f"class A:\n    def b(self, c=None, d={default}):\n        def e(f={default}):\n            pass"
            self.assertEqual(wrong_defaults(ast.parse(inner)), [2, 3], default)

    def test_methods_and_values_of_objects(self):
        methods, values = set(), set()
        for node, where, tree in self.each_node():
            if isinstance(node, ast.ClassDef):
                own = [part.name for part in node.body if isinstance(part, ast.FunctionDef)]
                self.assertEqual(len(own), len(set(own)), where)
                methods.update(own)
            if isinstance(node, ast.Attribute) and isinstance(node.ctx, ast.Store):
                self.assertIsInstance(node.value, ast.Name, where)
                values.add(node.attr)
        self.assertEqual(methods & values, set())
        self.assertEqual(values & NEVER_VALUES, set())

    def test_dicts_and_lists_of_a_top_are_only_read(self):
        for name, tree in trees().items():
            kept = set(node.targets[0].id for node in tree.body
                       if isinstance(node, ast.Assign) and isinstance(node.value, (ast.Dict, ast.List)))
            for node in tree.body:
                if isinstance(node, ast.Assign) and isinstance(node.value, (ast.Dict, ast.List)):
                    inner = [part for part in ast.walk(node.value) if part != node.value]
                    self.assertFalse([part for part in inner if isinstance(part, (ast.Dict, ast.List))], name)
            read = set()
            for node in ast.walk(tree):
                if isinstance(node, ast.Subscript) and isinstance(node.ctx, ast.Load):
                    read.add(node.value)
                if isinstance(node, ast.Compare):
                    read.update(node.comparators)
                if isinstance(node, ast.Attribute) and node.attr in ("get", "items", "keys", "values"):
                    read.add(node.value)
            for node in ast.walk(tree):
                if isinstance(node, ast.Name) and node.id in kept and isinstance(node.ctx, ast.Load):
                    self.assertIn(node, read, (name, node.lineno))

    def test_names(self):
        for name, tree in trees().items():
            taken = set(alias.name for one in imports(tree) for alias in one.names)
            taken = taken | BUILTINS | set(one.name for one in tree.body if isinstance(one, ast.ClassDef))
            for node in ast.walk(tree):
                self.look_at_name(node, taken, (name, getattr(node, "lineno", 0)))

    def look_at_name(self, node, taken, where):
        if isinstance(node, ast.Name):
            self.assertNotRegex(node.id, r"^_", where)
            self.assertNotIn(node.id, NEVER_NAMES, where)
            if isinstance(node.ctx, ast.Load):
                self.assertNotIn(node.id, BUILTINS - ALLOWED_BUILTINS, where)
            else:
                self.assertNotIn(node.id, taken, where)
        if isinstance(node, ast.arg):
            self.assertNotRegex(node.arg, r"^_", where)
            self.assertNotIn(node.arg, taken, where)
        if isinstance(node, ast.FunctionDef) and node.name not in TWO_UNDERSCORES:
            self.assertNotRegex(node.name, r"^_", where)
            self.assertNotIn(node.name, NEVER_NAMES, where)

    def test_methods(self):
        own = set(node.name for node, where, tree in self.each_node() if isinstance(node, ast.FunctionDef))
        for node, where, tree in self.each_node():
            if isinstance(node, ast.Attribute):
                self.assertNotIn(node.attr, NEVER_NAMES, where)
            if isinstance(node, ast.Call) and isinstance(node.func, ast.Attribute):
                self.assertIn(node.func.attr, ALLOWED_METHODS | own, where)

    def test_is_and_errors(self):
        for node, where, tree in self.each_node():
            if isinstance(node, ast.Compare):
                for sign, side in zip(node.ops, node.comparators):
                    if isinstance(sign, (ast.Is, ast.IsNot)):
                        self.assertIsInstance(side, ast.Constant, where)
            if isinstance(node, ast.ExceptHandler):
                self.assertIsNotNone(node.type, where)
                self.assertNotIn(ast.unparse(node.type), ("Exception", "TypeError"), where)
            if isinstance(node, ast.Raise):
                self.assertIsInstance(node.exc, ast.Call, where)

    def test_what_is_walked_at_once_is_not_kept(self):
        for node, where, tree in self.each_node():
            if isinstance(node, (ast.Assign, ast.Return)) and isinstance(node.value, ast.Call):
                self.assertNotIn(ast.unparse(node.value.func), WALKED | {"set", "frozenset"}, where)
                if isinstance(node.value.func, ast.Attribute):
                    self.assertNotIn(node.value.func.attr, ("items", "keys", "values"), where)


if __name__ == "__main__":
    unittest.main()
