"""The package keeps to the small part of Python that it is to be written in, as far as a walk over it can see."""

import ast
import builtins
import pathlib
import re
import unittest

PACKAGE = pathlib.Path(__file__).resolve().parent.parent / "fewpegs"

NODES = (
    ast.Module, ast.ImportFrom, ast.alias, ast.FunctionDef, ast.arguments, ast.arg, ast.ClassDef, ast.Lambda,
    ast.Assign, ast.AugAssign, ast.If, ast.While, ast.For, ast.Return, ast.Break, ast.Continue, ast.Pass, ast.Raise,
    ast.Try, ast.ExceptHandler, ast.Expr, ast.Constant, ast.List, ast.Tuple, ast.Dict, ast.Set, ast.BinOp,
    ast.UnaryOp, ast.BoolOp, ast.Compare, ast.IfExp, ast.Call, ast.keyword, ast.Attribute, ast.Subscript, ast.Slice,
    ast.ListComp, ast.comprehension, ast.JoinedStr, ast.FormattedValue, ast.Name,
    ast.expr_context, ast.operator, ast.unaryop, ast.boolop, ast.cmpop,
)
BUILT_IN = (
    "len range enumerate zip min max sum abs sorted reversed int str bool list tuple dict set frozenset isinstance "
    "ord repr any all divmod Exception ValueError KeyError IndexError LookupError ZeroDivisionError ArithmeticError "
    "OverflowError RuntimeError NotImplementedError StopIteration"
).split()
OWN_METHODS = ("__init__", "__eq__", "__repr__", "__str__", "__len__")
WORDS = (
    "type typing typing_extensions enum Enum IntEnum StrEnum Flag IntFlag Generic Protocol ABC ABCMeta namedtuple "
    "NamedTuple TypedDict TYPE_CHECKING abstractmethod"
).split()
PIECES = ("dataclass", "overload", "contextmanager")
PYTHON_METHODS = (
    "append clear copy count endswith extend find get index insert isalnum isalpha isdigit islower isspace isupper items "
    "join keys ljust lower lstrip partition pop remove replace reverse rfind rjust rpartition rsplit rstrip setdefault "
    "split splitlines startswith strip update upper values zfill bit_length"
).split()
KEYWORDS = {"sorted": ("key", "reverse"), "min": ("key", "default"), "max": ("key", "default")}
NOT_USED = "register mro elements open input version_info with_traceback add_note format format_map".split()


def files():
    return sorted(path for path in PACKAGE.rglob("*") if "__pycache__" not in path.parts)


def sources():
    return [(path.name, path.read_text(encoding="utf-8")) for path in files() if path.is_file()]


def walked():
    for name, text in sources():
        for node in ast.walk(ast.parse(text)):
            yield name, node


def bound_names(tree):
    names = {"self"}
    for node in ast.walk(tree):
        if isinstance(node, (ast.FunctionDef, ast.ClassDef)):
            names.add(node.name)
        elif isinstance(node, ast.arg):
            names.add(node.arg)
        elif isinstance(node, ast.alias):
            names.add(node.asname or node.name)
        elif isinstance(node, ast.ExceptHandler) and node.name:
            names.add(node.name)
        elif isinstance(node, ast.Name) and isinstance(node.ctx, ast.Store):
            names.add(node.id)
    return names


def own_methods():
    return {
        part.name
        for _, node in walked() if isinstance(node, ast.ClassDef)
        for part in node.body if isinstance(part, ast.FunctionDef)
    }


def drawn_from():
    drawn = {}
    for name, text in sources():
        rows = [node for node in ast.walk(ast.parse(text)) if isinstance(node, ast.ImportFrom)]
        drawn[name] = {row.module.split(".")[1] + ".py" for row in rows}
    return drawn


class Form(unittest.TestCase):
    def test_only_plainly_named_files_lie_in_the_package(self):
        self.assertIn("__init__.py", [path.name for path in files()])
        for path in files():
            self.assertTrue(path.is_file() and re.fullmatch(r"[a-z0-9_]+\.py", path.name), path)

    def test_signs_and_sizes(self):
        for name, text in sources():
            self.assertRegex(text, r"\A[\n -~]*\Z", name)
            rows = text.split("\n")
            self.assertLessEqual(len(rows), 400, name)
            self.assertLessEqual(max(len(row) for row in rows), 120, name)

    def test_words_that_stand_nowhere(self):
        for name, text in sources():
            found = set(re.findall(r"\w+", text)) & set(WORDS)
            self.assertFalse(found, name)
            self.assertFalse([piece for piece in PIECES if piece in text], name)

    def test_nodes(self):
        for name, node in walked():
            self.assertIsInstance(node, NODES, (name, getattr(node, "lineno", None)))

    def test_imports_are_the_package_s_own(self):
        for name, node in walked():
            if isinstance(node, ast.ImportFrom):
                self.assertEqual(node.level, 0, name)
                self.assertRegex(node.module, r"\Afewpegs\.[a-z0-9_]+\Z", name)
                self.assertNotIn("*", [alias.name for alias in node.names], name)

    def test_names_are_drawn_from_the_file_that_defines_them(self):
        trees = {name: ast.parse(text) for name, text in sources()}
        for name, node in walked():
            if isinstance(node, ast.ImportFrom):
                top = trees[node.module.split(".")[1] + ".py"].body
                defined = {part.name for part in top if isinstance(part, (ast.FunctionDef, ast.ClassDef))}
                self.assertLessEqual({alias.name for alias in node.names}, defined, name)

    def test_no_two_files_draw_from_one_another(self):
        drawn = drawn_from()
        while drawn:
            free = [name for name, others in drawn.items() if not others & set(drawn)]
            self.assertTrue(free, drawn)
            drawn = {name: others for name, others in drawn.items() if name not in free}

    def test_calls(self):
        methods = own_methods() | set(PYTHON_METHODS)
        for name, node in walked():
            if isinstance(node, ast.Call):
                called = node.func.id if isinstance(node.func, ast.Name) else node.func.attr
                self.assertTrue(isinstance(node.func, ast.Name) or called in methods, (name, node.lineno))
                for keyword in node.keywords:
                    self.assertIn(keyword.arg, KEYWORDS.get(called, ()), (name, node.lineno))

    def test_names_that_are_not_used(self):
        for name, text in sources():
            tree = ast.parse(text)
            attributes = {node.attr for node in ast.walk(tree) if isinstance(node, ast.Attribute)}
            self.assertFalse((bound_names(tree) | attributes) & set(NOT_USED), name)
            self.assertFalse(bound_names(tree) & set(dir(builtins)), name)

    def test_no_local_is_called_like_a_class_or_an_import(self):
        for name, text in sources():
            tree = ast.parse(text)
            tops = {alias.name for node in tree.body if isinstance(node, ast.ImportFrom) for alias in node.names}
            tops |= {node.name for node in tree.body if isinstance(node, ast.ClassDef)}
            for node in ast.walk(tree):
                given = node.arg if isinstance(node, ast.arg) else None
                stored = node.id if isinstance(node, ast.Name) and isinstance(node.ctx, ast.Store) else None
                self.assertFalse({given, stored} & tops, (name, getattr(node, "lineno", None)))

    def test_functions(self):
        for name, node in walked():
            if isinstance(node, ast.FunctionDef):
                self.assertLessEqual(node.end_lineno - node.lineno + 1, 40, (name, node.name))
                self.assertFalse(node.decorator_list, (name, node.name))
                self.assertTrue(node.name in OWN_METHODS or not node.name.startswith("_"), (name, node.name))
                given = node.args
                self.assertFalse(given.vararg or given.kwarg or given.kwonlyargs or given.posonlyargs, (name, node.name))

    def test_an_expression_by_itself_is_a_call_or_the_top_text(self):
        for name, text in sources():
            tree = ast.parse(text)
            for node in ast.walk(tree):
                if isinstance(node, ast.Expr) and node is not tree.body[0]:
                    self.assertIsInstance(node.value, ast.Call, (name, node.lineno))

    def test_names_are_bound_here_or_python_s_own(self):
        for name, text in sources():
            tree = ast.parse(text)
            bound = bound_names(tree)
            self.assertFalse(bound & set(BUILT_IN), name)
            for node in ast.walk(tree):
                if isinstance(node, ast.Name):
                    self.assertIn(node.id, bound | set(BUILT_IN), (name, node.lineno))
                    self.assertFalse(node.id.startswith("_"), (name, node.lineno))

    def test_no_name_is_a_method_and_a_value(self):
        methods, values = set(), set()
        for _, node in walked():
            if isinstance(node, ast.ClassDef):
                methods |= {part.name for part in node.body if isinstance(part, ast.FunctionDef)}
            elif isinstance(node, ast.Attribute) and isinstance(node.ctx, ast.Store):
                values.add(node.attr)
        self.assertFalse(methods & values)

    def test_plain_values_alone(self):
        for name, node in walked():
            if isinstance(node, ast.Constant):
                self.assertIsInstance(node.value, (int, str, type(None)), (name, node.lineno))
            self.assertNotIsInstance(node, (ast.Div, ast.MatMult), name)
            if isinstance(node, ast.Compare):
                for sign, side in zip(node.ops, node.comparators):
                    if isinstance(sign, (ast.Is, ast.IsNot)):
                        self.assertTrue(isinstance(side, ast.Constant) and side.value in (None, True, False), name)


if __name__ == "__main__":
    unittest.main()
