"""The package keeps to its small part of Python, as far as a walk over its files can tell.

Where a number such as L7 stands, it is that of the rule.
"""

import ast
import builtins
import pathlib
import re
import unittest

import recipetexts

PACKAGE = pathlib.Path(recipetexts.__file__).parent
FILES = sorted(PACKAGE.glob("*.py"))

STATEMENTS = (
    ast.Assign, ast.AugAssign, ast.If, ast.While, ast.For, ast.Return, ast.Break, ast.Continue, ast.Pass,
    ast.Raise, ast.Try, ast.ExceptHandler, ast.Expr, ast.FunctionDef, ast.ClassDef, ast.ImportFrom,
)
EXPRESSIONS = (
    ast.Constant, ast.Name, ast.List, ast.Tuple, ast.Dict, ast.BinOp, ast.UnaryOp, ast.BoolOp, ast.Compare,
    ast.IfExp, ast.Call, ast.Attribute, ast.Subscript, ast.Slice, ast.ListComp,
)
PYTHONS_OWN = set(
    "len range enumerate zip min max sum abs sorted reversed int str bool list tuple dict isinstance ord repr any all"
    " divmod Exception ValueError KeyError IndexError LookupError".split()
)
METHODS = set(
    "append clear copy count endswith extend find get index insert isalnum isalpha isdigit islower isspace isupper"
    " items join keys ljust lower lstrip partition pop remove replace reverse rfind rjust rpartition rsplit rstrip"
    " setdefault split splitlines startswith strip update upper values zfill bit_length".split()
)
WALKED_AT_ONCE = ("zip", "enumerate", "reversed", "range")
WALKERS = ("list", "tuple", "dict", "sorted", "sum", "any", "all", "enumerate", "zip")
NEVER_NAMED = set("register mro elements open input version_info with_traceback add_note format format_map".split())
NEVER_WRITTEN = re.compile(
    r"\b(type|typing|typing_extensions|enum|Enum|IntEnum|StrEnum|Flag|IntFlag|Generic|Protocol|ABC|ABCMeta|namedtuple"
    r"|NamedTuple|TypedDict|TYPE_CHECKING|abstractmethod)\b|dataclass|overload|contextmanager"
)
PLAIN_NAME = re.compile(r"[A-Za-z][A-Za-z0-9_]*\Z")


def nodes_of(kind):
    for path in FILES:
        for node in ast.walk(ast.parse(path.read_text())):
            if isinstance(node, kind):
                yield path.name, node


def own_methods():
    return {part.name for name, node in nodes_of(ast.ClassDef) for part in node.body}


def top_names(tree):
    for row in tree.body:
        if isinstance(row, ast.ImportFrom):
            yield from (alias.name for alias in row.names)
        elif isinstance(row, ast.Assign):
            yield row.targets[0].id
        elif isinstance(row, (ast.FunctionDef, ast.ClassDef)):
            yield row.name


class Files(unittest.TestCase):
    def test_the_folder_holds_plain_files_alone(self):
        for path in PACKAGE.iterdir():
            if path.name != "__pycache__":
                self.assertRegex(path.name, r"\A(__init__|[a-z][a-z0-9_]*)\.py\Z", "L1, L14")

    def test_rows_and_signs(self):
        for path in FILES:
            rows = path.read_text().split("\n")
            self.assertLessEqual(len(rows), 401, "L10")
            for row in rows:
                self.assertRegex(row, r"\A[ -~]{0,120}\Z", "L10, L14: " + path.name)
                self.assertIsNone(NEVER_WRITTEN.search(row), "L17: " + row)

    def test_functions_have_at_most_40_lines(self):
        for name, node in nodes_of(ast.FunctionDef):
            self.assertLessEqual(node.end_lineno - node.lineno + 1, 40, "L10: " + node.name)


class Imports(unittest.TestCase):
    def drawn_from(self, path):
        for node in ast.walk(ast.parse(path.read_text())):
            if isinstance(node, ast.ImportFrom):
                yield node.module, [alias.name for alias in node.names]

    def test_each_name_comes_from_the_file_that_defines_it(self):
        for path in FILES:
            for module, names in self.drawn_from(path):
                self.assertRegex(module, r"\Arecipetexts\.[a-z]+\Z", "L2")
                source = ast.parse((PACKAGE / (module.split(".")[1] + ".py")).read_text())
                defined = set(top_names(ast.Module([r for r in source.body if not isinstance(r, ast.ImportFrom)], [])))
                self.assertLessEqual(set(names), defined, "L16")

    def test_no_two_files_draw_from_one_another(self):
        waiting = {path.stem: {module.split(".")[1] for module, names in self.drawn_from(path)} for path in FILES}
        while waiting:
            free = [stem for stem in waiting if not waiting[stem] & set(waiting)]
            self.assertTrue(free, "L16")
            for stem in free:
                del waiting[stem]


class Forms(unittest.TestCase):
    def test_statements_and_expressions(self):
        for name, node in nodes_of((ast.stmt, ast.expr, ast.ExceptHandler)):
            self.assertIsInstance(node, STATEMENTS + EXPRESSIONS, f"L6, L7: {name} {node.lineno}")

    def test_top_of_a_file(self):
        for path in FILES:
            tree = ast.parse(path.read_text())
            names = list(top_names(tree))
            self.assertEqual(len(names), len(set(names)), "L15: " + path.name)
            for k, row in enumerate(tree.body):
                docstring = k == 0 and isinstance(row, ast.Expr) and isinstance(row.value, ast.Constant)
                self.assertTrue(docstring or not isinstance(row, (ast.Expr, ast.If, ast.For, ast.While)), "L3")

    def test_values_at_the_top_of_a_file(self):
        for path in FILES:
            tree = ast.parse(path.read_text())
            functions = {row.name for row in tree.body if isinstance(row, ast.FunctionDef)}
            for row in tree.body:
                if isinstance(row, ast.Assign):
                    for node in ast.walk(row.value):
                        self.assertNotIsInstance(node, (ast.Call, ast.BinOp), "L3")
                        if isinstance(node, ast.Name):
                            self.assertIn(node.id, functions, "L3")
                        if node != row.value:
                            self.assertNotIsInstance(node, (ast.List, ast.Dict), "L15")

    def test_functions(self):
        for name, node in nodes_of(ast.FunctionDef):
            self.assertEqual(node.decorator_list, [], "L4")
            given = node.args
            self.assertFalse(given.vararg or given.kwarg or given.kwonlyargs or given.posonlyargs, "L4")
            self.assertFalse(node.returns or any(argument.annotation for argument in given.args), "L21")

    def test_classes(self):
        for name, node in nodes_of(ast.ClassDef):
            self.assertLessEqual(len(node.bases), 1, "L5")
            for part in node.body:
                self.assertIsInstance(part, ast.FunctionDef, "L5")

    def test_init_gives_nothing_back(self):
        for name, node in nodes_of(ast.FunctionDef):
            if node.name == "__init__":
                self.assertFalse([part for part in ast.walk(node) if isinstance(part, ast.Return)], "L28: " + name)

    def test_single_rows(self):
        for name, node in nodes_of(ast.Assign):
            self.assertEqual(len(node.targets), 1, "L6")
        for name, node in nodes_of((ast.For, ast.While)):
            self.assertEqual(node.orelse, [], "L6")
        for name, node in nodes_of(ast.ListComp):
            self.assertTrue(len(node.generators) == 1 and len(node.generators[0].ifs) <= 1, "L7")
        for name, node in nodes_of(ast.BinOp):
            self.assertNotIsInstance(node.op, (ast.Div, ast.Pow), "L7, L27")
        for name, node in nodes_of(ast.Constant):
            self.assertIn(type(node.value), (int, str, bool, type(None)), "L7")
            self.assertNotIn("%", str(node.value), "L27")
        for name, node in nodes_of(ast.Compare):
            for sign, other in zip(node.ops, node.comparators):
                if isinstance(sign, (ast.Is, ast.IsNot)):
                    self.assertIn(ast.unparse(other), ("None", "True", "False"), "L20")


class Names(unittest.TestCase):
    def test_every_name_is_plain(self):
        kinds = {ast.Name: "id", ast.Attribute: "attr", ast.arg: "arg", ast.FunctionDef: "name", ast.ClassDef: "name"}
        for kind, field in kinds.items():
            for name, node in nodes_of(kind):
                called = getattr(node, field)
                self.assertTrue(called == "__init__" or PLAIN_NAME.match(called), "L12, L28: " + called)
                self.assertNotIn(called, NEVER_NAMED, "L17")

    def test_pythons_own_names(self):
        for name, node in nodes_of(ast.Name):
            if hasattr(builtins, node.id):
                self.assertIn(node.id, PYTHONS_OWN, "L8")
                self.assertIsInstance(node.ctx, ast.Load, "L8, L15")
        for name, node in nodes_of(ast.arg):
            self.assertFalse(hasattr(builtins, node.arg), "L15")

    def test_locals_are_not_called_like_classes_or_imports(self):
        for path in FILES:
            tree = ast.parse(path.read_text())
            rows = [row for row in tree.body if isinstance(row, (ast.ImportFrom, ast.ClassDef))]
            taken = set(top_names(ast.Module(rows, [])))
            for node in ast.walk(tree):
                if isinstance(node, ast.arg):
                    self.assertNotIn(node.arg, taken, "L15")
                if isinstance(node, ast.Name) and isinstance(node.ctx, ast.Store):
                    self.assertNotIn(node.id, taken, "L15")

    def test_methods(self):
        own = own_methods()
        for name, node in nodes_of(ast.Call):
            if isinstance(node.func, ast.Attribute):
                self.assertIn(node.func.attr, METHODS | own, "L25")

    def test_no_name_is_a_method_and_a_value(self):
        values = {
            node.attr for name, node in nodes_of(ast.Attribute) if isinstance(node.ctx, ast.Store)
        }
        self.assertEqual(values & own_methods(), set(), "L18")
        pythons = set().union(*(dir(value) for value in ("", 1, [], {}, set(), b"")))
        self.assertEqual(values & pythons, set(), "L26")

    def test_walked_at_once(self):
        walked = []
        for name, node in nodes_of((ast.For, ast.comprehension)):
            walked.append(ast.unparse(node.iter))
        for name, node in nodes_of(ast.Call):
            if ast.unparse(node.func) in WALKERS and node.args:
                walked.append(ast.unparse(node.args[0]))
        for name, node in nodes_of(ast.Call):
            if isinstance(node.func, ast.Name) and node.func.id in WALKED_AT_ONCE:
                self.assertIn(ast.unparse(node), walked, "L23")

    def test_errors_are_the_programs_own(self):
        classes = {node.name for name, node in nodes_of(ast.ClassDef)}
        for name, node in nodes_of(ast.ExceptHandler):
            self.assertIn(ast.unparse(node.type), classes, "L19")
        for name, node in nodes_of(ast.Raise):
            self.assertIn(node.exc.func.id, classes, "L19")


if __name__ == "__main__":
    unittest.main()
