"""The package keeps to its small part of Python.

These tests ask for somewhat less than the language lets (no stored sets, no
generator expressions, no nested functions), so that a row that passes is
sure to be let, as far as they look.
"""

import ast
import builtins
import unittest
from pathlib import Path

PACKAGE = Path(__file__).parent.parent / "sixpins"

STATEMENTS = ("FunctionDef ClassDef Return Assign AugAssign For While If Raise Expr ImportFrom Pass Break "
              "Continue Assert Delete Module Try ExceptHandler")
EXPRESSIONS = ("BoolOp BinOp UnaryOp IfExp Compare Call Constant Attribute Subscript Starred Name List Tuple "
               "Slice ListComp DictComp Dict JoinedStr FormattedValue Lambda comprehension keyword arguments arg alias "
               "Load Store Del")
SIGNS = ("And Or Not USub UAdd Invert Add Sub Mult FloorDiv Mod Pow BitAnd BitOr BitXor LShift RShift Eq NotEq Lt "
         "LtE Gt GtE Is IsNot In NotIn")
NODES = set(f"{STATEMENTS} {EXPRESSIONS} {SIGNS}".split())

LIBRARY = {"math": "gcd lcm isqrt comb perm factorial".split()}

BUILTINS = set("len range enumerate zip min max sum abs sorted reversed int str bool list tuple dict isinstance ord "
               "repr any all divmod iter type set staticmethod classmethod Exception ValueError TypeError "
               "NotImplemented".split())

METHODS = set("append clear copy count endswith extend find get index insert isalnum isalpha isdigit islower isspace "
              "isupper items join keys ljust lower lstrip partition pop remove replace reverse rfind rjust rpartition "
              "rsplit rstrip setdefault split splitlines startswith strip update upper values zfill bit_length "
              "removeprefix removesuffix isascii isdecimal".split())

SPECIAL = set("__init__ __eq__ __str__ __repr__ __len__ __iter__ __bool__ __contains__ __mul__".split())

AT_ONCE = set("list tuple dict sorted sum any all enumerate zip min max".split())
PASSING = set("zip enumerate reversed range items keys values".split())

BARRED = set("typing typing_extensions enum Enum Generic Protocol ABC namedtuple NamedTuple TypedDict mro elements "
             "open input law register".split())


def files():
    """Each file of the package with its text and its tree."""
    for path in sorted(PACKAGE.rglob("*.py")):
        text = path.read_bytes().decode("utf-8")
        yield path, text, ast.parse(text)


def top_names(tree):
    """The names that a file binds at its top, imports left out."""
    told = []
    for row in tree.body:
        if isinstance(row, (ast.FunctionDef, ast.ClassDef)):
            told.append(row.name)
        elif isinstance(row, ast.Assign):
            told.extend(target.id for target in row.targets)
    return told


def imported(tree):
    """Pairs of a module and a name that a file imports."""
    return [(row.module, name.name) for row in tree.body if isinstance(row, ast.ImportFrom) for name in row.names]


def called(node):
    """The name by which a call calls."""
    if isinstance(node, ast.Call):
        return getattr(node.func, "id", None) or getattr(node.func, "attr", None)
    return None


def locals_of(function):
    """The names that a function binds."""
    told = {node.arg for node in ast.walk(function) if isinstance(node, ast.arg)}
    return told | {node.id for node in ast.walk(function)
                   if isinstance(node, ast.Name) and isinstance(node.ctx, ast.Store)}


def each(*kinds):
    """Where it stands, and the node, for each node of these kinds in all files."""
    return [(f"{path.name}:{getattr(node, 'lineno', 0)}", node) for path, _, tree in files()
            for node in ast.walk(tree) if isinstance(node, kinds)]


class LanguageTest(unittest.TestCase):

    def test_files(self):
        kept = [path for path in PACKAGE.rglob("*") if "__pycache__" not in path.parts]
        self.assertLessEqual(len(kept), 100)
        for path in kept:
            with self.subTest(path.name):
                self.assertTrue(path.is_file() and path.suffix == ".py")
                self.assertTrue(path.stem.isidentifier() and path.stem == path.stem.lower())
                self.assertNotIn(path.stem, dir(builtins))
                self.assertFalse(path.stem.startswith(("test", "law_")))

    def test_sizes_and_characters(self):
        for path, text, tree in files():
            with self.subTest(path.name):
                self.assertLessEqual(len(text.splitlines()), 399)
                self.assertLessEqual(max(len(line) for line in text.splitlines()), 120)
                self.assertTrue(all(sign == "\n" or " " <= sign <= "~" for sign in text))
                self.assertTrue(ast.get_docstring(tree))
        for where, function in each(ast.FunctionDef):
            with self.subTest(where):
                self.assertLessEqual(function.end_lineno - function.lineno + 1, 40)

    def test_nodes(self):
        for where, node in each(ast.AST):
            with self.subTest(where):
                self.assertIn(type(node).__name__, NODES)

    def test_top_level(self):
        for path, _, tree in files():
            for at, row in enumerate(tree.body):
                with self.subTest(f"{path.name}:{row.lineno}"):
                    if isinstance(row, ast.Expr):
                        self.assertEqual(at, 0)
                    elif isinstance(row, ast.Assign):
                        self.assertEqual(len(row.targets), 1)
                        self.assertIsInstance(row.targets[0], ast.Name)
                    else:
                        self.assertIsInstance(row, (ast.ImportFrom, ast.FunctionDef, ast.ClassDef))

    def test_imports(self):
        bound = {f"sixpins.{path.stem}": top_names(tree) for path, _, tree in files()}
        for path, _, tree in files():
            names = top_names(tree) + [name for _, name in imported(tree)]
            self.assertEqual(len(names), len(set(names)), path.name)
            for module, name in imported(tree):
                with self.subTest(path.name, name=name):
                    self.assertIn(name, bound.get(module) or LIBRARY.get(module, ()))
                    others = [node for node in ast.walk(tree)
                              if isinstance(node, ast.Name) and node.id == name]
                    self.assertTrue(others, "imported, but not used")

    def test_no_circles_of_imports(self):
        told = {f"sixpins.{path.stem}": {module for module, _ in imported(tree)} for path, _, tree in files()}
        while told:
            free = [module for module, needs in told.items() if not needs & set(told)]
            self.assertTrue(free, sorted(told))
            told = {module: needs for module, needs in told.items() if module not in free}

    def test_names(self):
        for path, _, tree in files():
            barred = {name for _, name in imported(tree)}
            barred |= {row.name for row in tree.body if isinstance(row, ast.ClassDef)}
            for function in [node for node in ast.walk(tree) if isinstance(node, ast.FunctionDef)]:
                with self.subTest(path.name, function=function.name):
                    self.assertFalse(locals_of(function) & barred)
                    self.assertFalse(locals_of(function) & set(dir(builtins)))
            free = set(top_names(tree)) | barred | BUILTINS
            for row in tree.body:
                inner = locals_of(row)
                for node in ast.walk(row):
                    if isinstance(node, ast.Name):
                        with self.subTest(f"{path.name}:{node.lineno}"):
                            self.assertIn(node.id, free | inner)
                            self.assertNotIn(node.id, BARRED)

    def test_methods(self):
        own = {function.name for _, tops in each(ast.ClassDef) for function in tops.body
               if isinstance(function, ast.FunctionDef)}
        self.assertFalse({name for name in own if name.startswith("__")} - SPECIAL)
        for where, node in each(ast.Call):
            with self.subTest(where):
                if isinstance(node.func, ast.Attribute):
                    self.assertIn(node.func.attr, METHODS | own)
        for where, node in each(ast.FunctionDef):
            with self.subTest(where):
                for decorator in node.decorator_list:
                    self.assertIn(decorator.id, ("staticmethod", "classmethod"))

    def test_nothing_is_nested(self):
        for where, function in each(ast.FunctionDef):
            with self.subTest(where):
                inner = [node for node in ast.walk(function) if isinstance(node, (ast.FunctionDef, ast.ClassDef))]
                self.assertEqual(inner, [function])

    def test_values(self):
        for where, node in each(ast.Constant):
            with self.subTest(where):
                self.assertIn(type(node.value), (int, str, bool, type(None)))
                self.assertNotIn("%", str(node.value))
        for where, node in each(ast.BinOp):
            with self.subTest(where):
                if isinstance(node.op, ast.Pow):
                    self.assertIsInstance(node.right, ast.Constant)
        for where, node in each(ast.Compare):
            with self.subTest(where):
                if isinstance(node.ops[0], (ast.Is, ast.IsNot)):
                    right = node.comparators[0]
                    of_class = called(node.left) == "type" and (called(right) or getattr(right, "id", None))
                    self.assertTrue(isinstance(right, ast.Constant) or of_class in ("type", "int"))

    def test_sets_stand_in_len_and_sorted_alone(self):
        names = {where for where, node in each(ast.Name) if node.id == "set"}
        calls = [(where, inner) for where, node in each(ast.Call) if called(node) in ("len", "sorted")
                 for inner in node.args if called(inner) == "set" and not node.keywords]
        self.assertEqual(names, {where for where, _ in calls})
        for where, inner in calls:
            with self.subTest(where):
                self.assertEqual(len(inner.args), 1)
                self.assertNotEqual(called(inner.args[0]), "set")

    def test_own_errors_alone_are_caught(self):
        own = {row.name for path, _, tree in files() if path.stem == "errors" for row in tree.body
               if isinstance(row, ast.ClassDef)}
        for where, node in each(ast.Try):
            with self.subTest(where):
                self.assertFalse(node.finalbody or node.orelse)
                for handler in node.handlers:
                    self.assertIn(getattr(handler.type, "id", None), own)

    def test_not_implemented_is_returned(self):
        names = {where for where, node in each(ast.Name) if node.id == "NotImplemented"}
        returned = {where for where, node in each(ast.Return)
                    if isinstance(node.value, ast.Name) and node.value.id == "NotImplemented"}
        self.assertEqual(names, returned)

    def test_inner_comprehensions_have_names_of_their_own(self):
        for where, outer in each(ast.ListComp, ast.DictComp):
            its = {node.id for part in outer.generators for node in ast.walk(part.target)
                   if isinstance(node, ast.Name)}
            for inner in ast.walk(outer):
                if isinstance(inner, (ast.ListComp, ast.DictComp)) and inner is not outer:
                    with self.subTest(where):
                        told = {node.id for part in inner.generators for node in ast.walk(part.target)
                                if isinstance(node, ast.Name)}
                        self.assertFalse(its & told)

    def test_stars_stand_over_names(self):
        for where, node in each(ast.Starred):
            with self.subTest(where):
                self.assertIsInstance(node.value, (ast.Name, ast.Attribute))

    def test_iterated_at_once(self):
        for where, node in each(ast.AST):
            with self.subTest(where):
                for name, value in ast.iter_fields(node):
                    for inner in value if isinstance(value, list) else [value]:
                        if called(inner) in PASSING:
                            at_loop = isinstance(node, (ast.For, ast.comprehension)) and name == "iter"
                            lets = AT_ONCE | ({"reversed", "len"} if called(inner) == "range" else set())
                            in_range = isinstance(node, ast.Compare) and called(inner) == "range"
                            self.assertTrue(at_loop or in_range or called(node) in lets)


if __name__ == "__main__":
    unittest.main()
