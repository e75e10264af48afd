"""Holds the package's files to those rules of ../shared/LANGUAGE.md that can be read off a file by itself."""

import ast
import re
import unittest
from pathlib import Path

PACKAGE = Path(__file__).resolve().parent.parent / "evenyoke"

STATEMENTS = (ast.Assign, ast.AugAssign, ast.If, ast.While, ast.For, ast.Return, ast.Break, ast.Continue, ast.Pass,
              ast.Raise, ast.Try, ast.Expr, ast.FunctionDef, ast.ClassDef, ast.ImportFrom)
EXPRESSIONS = (ast.Constant, ast.Name, ast.List, ast.Tuple, ast.Dict, ast.Set, ast.BinOp, ast.UnaryOp, ast.BoolOp,
               ast.Compare, ast.IfExp, ast.Call, ast.Attribute, ast.Subscript, ast.Slice, ast.ListComp, ast.Lambda,
               ast.JoinedStr, ast.FormattedValue)
BUILT_IN = """len range enumerate zip min max sum abs sorted reversed int str bool list tuple dict set frozenset
    isinstance ord repr any all divmod Exception ValueError TypeError KeyError IndexError LookupError
    ZeroDivisionError ArithmeticError OverflowError RuntimeError NotImplementedError StopIteration""".split()
METHODS = """append clear copy count endswith extend find get index insert isalnum isalpha isdigit islower isspace
    isupper items join keys ljust lower lstrip partition pop remove replace reverse rfind rjust rpartition rsplit
    rstrip setdefault split splitlines startswith strip update upper values zfill bit_length""".split()
OF_PYTHON = {name for kind in (str, int, list, dict, set, bytes, tuple) for name in dir(kind)}
UNDERSCORED = ["__init__", "__eq__", "__repr__", "__str__", "__len__"]
WORDS = re.compile(r"\b(type|typing|typing_extensions|enum|Enum|IntEnum|StrEnum|Flag|IntFlag|Generic|Protocol|ABC"
                   r"|ABCMeta|namedtuple|NamedTuple|TypedDict|TYPE_CHECKING|abstractmethod)\b"
                   r"|dataclass|overload|contextmanager")
NOWHERE = ["register", "mro", "elements", "open", "input", "version_info", "with_traceback", "add_note", "format",
           "format_map"]


def package_files():
    return sorted(PACKAGE.glob("*.py"))


def is_call_of(node, *names):
    return isinstance(node, ast.Call) and isinstance(node.func, ast.Name) and node.func.id in names


def is_view(node):
    return (isinstance(node, ast.Call) and isinstance(node.func, ast.Attribute)
            and node.func.attr in ("items", "keys", "values"))


class TestLanguage(unittest.TestCase):
    def each_tree(self):
        for path in package_files():
            yield path, ast.parse(path.read_text())

    def each_node(self, *kinds):
        for path, tree in self.each_tree():
            for node in ast.walk(tree):
                if isinstance(node, kinds):
                    yield node

    def test_the_package_is_a_folder_of_plain_files(self):
        names = [path.name for path in PACKAGE.iterdir() if path.name != "__pycache__"]
        self.assertIn("__init__.py", names)
        for name in names:
            self.assertRegex(name, r"^([a-z][a-z0-9_]*|__init__|__main__)\.py$")

    def test_signs_and_sizes(self):
        for path in package_files():
            text = path.read_bytes().decode("ascii")
            self.assertRegex(text, r"\A[ -~\n]*\Z", path.name)
            self.assertLessEqual(len(text.splitlines()), 400, path.name)
            self.assertLessEqual(max(len(line) for line in text.splitlines()), 120, path.name)
            self.assertIsNone(WORDS.search(text), path.name)

    def test_functions_are_short_and_plain(self):
        for node in self.each_node(ast.FunctionDef):
            self.assertLessEqual(node.end_lineno - node.lineno + 1, 40, node.name)
            self.assertEqual(node.decorator_list, [])
            self.assertIsNone(node.args.vararg or node.args.kwarg)
            self.assertEqual(node.args.kwonlyargs + node.args.posonlyargs, [])

    def test_statements_and_expressions(self):
        for node in self.each_node(ast.stmt, ast.expr):
            self.assertIsInstance(node, STATEMENTS + EXPRESSIONS, getattr(node, "lineno", None))

    def test_forms_of_statements(self):
        for node in self.each_node(ast.Assign, ast.For, ast.While, ast.Try, ast.ListComp):
            if isinstance(node, ast.Assign):
                self.assertEqual(len(node.targets), 1)
                self.assertNotIsInstance(node.targets[0], (ast.Tuple, ast.List))
            elif isinstance(node, (ast.For, ast.While)):
                self.assertEqual(node.orelse, [])
            elif isinstance(node, ast.Try):
                self.assertEqual(node.finalbody, [])
            else:
                self.assertEqual(len(node.generators), 1)
                self.assertLessEqual(len(node.generators[0].ifs), 1)

    def test_no_true_division_float_or_bytes(self):
        for node in self.each_node(ast.Div, ast.MatMult, ast.Constant):
            self.assertIsInstance(node, ast.Constant)
            self.assertIsInstance(node.value, (int, str, type(None)))

    def test_statements_that_are_values_are_calls_or_a_file_docstring(self):
        for path, tree in self.each_tree():
            for node in ast.walk(tree):
                if isinstance(node, ast.Expr) and node is not tree.body[0]:
                    self.assertIsInstance(node.value, ast.Call, node.lineno)

    def test_imports_are_the_packages_own(self):
        for node in self.each_node(ast.ImportFrom):
            self.assertEqual(node.level, 0)
            self.assertRegex(node.module, r"^evenyoke\.[a-z_]+$")
            self.assertNotIn("*", [name.name for name in node.names])

    def test_names(self):
        import builtins
        for path, tree in self.each_tree():
            for node in ast.walk(tree):
                if isinstance(node, ast.Name):
                    self.assert_name(node.id)
                    if hasattr(builtins, node.id):
                        self.assertIn(node.id, BUILT_IN)
                        self.assertIsInstance(node.ctx, ast.Load)
                elif isinstance(node, ast.arg):
                    self.assert_name(node.arg)
                    self.assertFalse(hasattr(builtins, node.arg), node.arg)
                elif isinstance(node, (ast.FunctionDef, ast.ClassDef)):
                    self.assert_name(node.name)

    def assert_name(self, name):
        self.assertNotIn(name, NOWHERE)
        self.assertTrue(name in UNDERSCORED or re.match(r"^[A-Za-z][A-Za-z0-9_]*$", name), name)

    def test_attributes(self):
        for node in self.each_node(ast.Attribute):
            self.assertNotIn(node.attr, NOWHERE)
            self.assertTrue(node.attr not in OF_PYTHON or node.attr in METHODS + UNDERSCORED + ["add"], node.attr)

    def test_is_stands_beside_none_true_and_false_alone(self):
        for node in self.each_node(ast.Compare):
            for sign, right in zip(node.ops, node.comparators):
                if isinstance(sign, (ast.Is, ast.IsNot)):
                    self.assertIsInstance(right, ast.Constant)
                    self.assertIn(right.value, (None, True, False))

    def test_no_file_draws_from_one_that_draws_from_it(self):
        draws = {}
        for path, tree in self.each_tree():
            froms = [node.module for node in ast.walk(tree) if isinstance(node, ast.ImportFrom)]
            draws["evenyoke." + path.stem] = froms
        for start in draws:
            reached = list(draws[start])
            for module in reached:
                reached.extend(more for more in draws.get(module, []) if more not in reached)
            self.assertNotIn(start, reached)

    def test_names_are_drawn_from_the_file_that_defines_them(self):
        trees = {"evenyoke." + path.stem: tree for path, tree in self.each_tree()}
        for node in self.each_node(ast.ImportFrom):
            own = [top.name for top in trees[node.module].body if isinstance(top, (ast.FunctionDef, ast.ClassDef))]
            own += [top.targets[0].id for top in trees[node.module].body if isinstance(top, ast.Assign)]
            for name in node.names:
                self.assertIn(name.name, own)
                self.assertIsNone(name.asname)

    def test_each_name_of_a_file_is_bound_once_and_to_no_local(self):
        for path, tree in self.each_tree():
            tops = [name.name for node in tree.body if isinstance(node, ast.ImportFrom) for name in node.names]
            tops += [node.name for node in tree.body if isinstance(node, (ast.FunctionDef, ast.ClassDef))]
            tops += [node.targets[0].id for node in tree.body if isinstance(node, ast.Assign)]
            self.assertEqual(len(tops), len(set(tops)), path.name)
            for function in ast.walk(tree):
                if isinstance(function, (ast.FunctionDef, ast.Lambda)):
                    names = [node.id for node in ast.walk(function)
                             if isinstance(node, ast.Name) and isinstance(node.ctx, ast.Store)]
                    names += [node.arg for node in ast.walk(function) if isinstance(node, ast.arg)]
                    self.assertEqual(set(names) & set(tops), set(), path.name)

    def test_no_name_is_a_method_and_a_value(self):
        methods = [node.name for kind in self.each_node(ast.ClassDef) for node in kind.body
                   if isinstance(node, ast.FunctionDef)]
        given = [node.attr for node in self.each_node(ast.Attribute) if isinstance(node.ctx, ast.Store)]
        self.assertEqual(set(methods) & set(given), set())
        self.assertEqual(set(given) & OF_PYTHON, set())

    def test_sets_are_asked_on_the_spot_alone(self):
        for parent in self.each_node(ast.AST):
            for node in ast.iter_child_nodes(parent):
                if isinstance(node, ast.Set) or is_call_of(node, "set", "frozenset"):
                    self.assertTrue(isinstance(parent, (ast.Compare, ast.BinOp)) or is_call_of(parent, "len", "sorted"))

    def test_no_percent_sign_in_texts(self):
        for node in self.each_node(ast.Constant):
            self.assertFalse(isinstance(node.value, str) and "%" in node.value, node.lineno)

    def test_f_strings_hold_plain_names(self):
        for node in self.each_node(ast.FormattedValue):
            self.assertIsInstance(node.value, ast.Name)
            self.assertIsNone(node.format_spec)

    def test_what_is_walked_is_walked_on_the_spot(self):
        for parent in self.each_node(ast.AST):
            for node in ast.iter_child_nodes(parent):
                if is_call_of(node, "zip", "enumerate", "reversed", "range") or is_view(node):
                    walked = isinstance(parent, (ast.For, ast.comprehension)) and parent.iter is node
                    self.assertTrue(walked or is_call_of(parent, "list", "tuple", "dict", "sorted", "sum", "any", "all",
                                                         "enumerate", "zip", "min", "max"), node.lineno)


if __name__ == "__main__":
    unittest.main()
