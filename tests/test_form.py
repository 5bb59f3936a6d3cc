"""The form of the code: the rules of the language that a program can check, and which this package needs."""

import ast
import builtins
import pathlib
import re
import unittest
import warnings

ROOT = pathlib.Path(__file__).resolve().parent.parent / "supermoves"
FILES = sorted(ROOT.glob("*.py"))

LIBRARY = {"math": {"gcd", "lcm", "isqrt", "comb", "perm", "factorial"},
           "itertools": {"product", "combinations", "permutations"}}
BUILTINS = set("""len range enumerate zip min max sum abs sorted reversed int str bool list tuple dict set isinstance
ord repr any all divmod ValueError KeyError""".split())
METHODS = set("""append clear copy count endswith extend find get index insert isalnum isalpha isdigit islower isspace
isupper items join keys ljust lower lstrip partition pop remove replace reverse rfind rjust rpartition rsplit rstrip
setdefault split splitlines startswith strip update upper values zfill bit_length""".split())
NODES = set("""Module FunctionDef ClassDef arguments arg Return Assign AugAssign For While If Break Continue Pass Raise
Expr Import ImportFrom alias BoolOp And Or BinOp Add Sub Mult FloorDiv Mod Pow LShift RShift BitAnd BitOr BitXor UnaryOp
Not USub IfExp Dict List Tuple ListComp DictComp comprehension Compare Eq NotEq Lt LtE Gt GtE Is IsNot In NotIn Call
keyword JoinedStr FormattedValue Constant Attribute Subscript Slice Name Load Store Del Delete Lambda Starred""".split())
WORDS = """type typing typing_extensions enum Enum IntEnum StrEnum Flag IntFlag Generic Protocol ABC ABCMeta namedtuple
NamedTuple TypedDict TYPE_CHECKING abstractmethod mro elements open input law version_info with_traceback add_note
register _wall _WallAttr""".split()


def trees():
    return {path.stem: ast.parse(path.read_text(encoding="utf-8")) for path in FILES}


def imports_of(tree):
    return [node for node in ast.walk(tree) if isinstance(node, ast.ImportFrom)]


def bound_names(tree):
    names = [node.id for node in ast.walk(tree) if isinstance(node, ast.Name) and isinstance(node.ctx, ast.Store)]
    names += [node.arg for node in ast.walk(tree) if isinstance(node, ast.arg)]
    return names + [node.name for node in ast.walk(tree) if isinstance(node, (ast.FunctionDef, ast.ClassDef))]


class Form(unittest.TestCase):
    def test_files(self):
        self.assertLessEqual(len(FILES), 100)
        found = [path for path in ROOT.rglob("*") if "__pycache__" not in path.parts]
        self.assertEqual(sorted(found), FILES)
        for path in FILES:
            self.assertRegex(path.name, r"^[a-z_][a-z0-9_]*\.py$")
            text = path.read_bytes().decode("ascii")
            self.assertLessEqual(len(text.split("\n")), 399)
            self.assertRegex(text, r"\A[ -~\n]*\Z")
            self.assertLessEqual(max(map(len, text.split("\n"))), 120)
            with warnings.catch_warnings():
                warnings.simplefilter("error")
                compile(text, str(path), "exec")
            for word in WORDS:
                self.assertIsNone(re.search(rf"\b{word}\b", text), f"{path.name}: {word}")

    def test_nodes(self):
        for file, tree in trees().items():
            for node in ast.walk(tree):
                self.assertIn(type(node).__name__, NODES, f"{file}:{getattr(node, 'lineno', 0)}")
                if isinstance(node, ast.Constant):
                    self.assertIn(type(node.value), [int, str, bool, type(None)])
                    if isinstance(node.value, str):
                        self.assertNotIn("%", node.value)
                if isinstance(node, ast.BinOp) and isinstance(node.op, ast.Pow):
                    self.assertTrue(isinstance(node.right, ast.Constant) and 0 <= node.right.value <= 64)
                if isinstance(node, ast.Compare) and any(isinstance(op, (ast.Is, ast.IsNot)) for op in node.ops):
                    self.assertIn(node.comparators[0].value, [None, True, False])
                if isinstance(node, ast.FunctionDef):
                    self.assertLessEqual(node.end_lineno - node.lineno + 1, 40, f"{file}: {node.name}")
                    self.assertEqual(node.decorator_list, [])

    def test_module_level(self):
        for file, tree in trees().items():
            self.assertTrue(isinstance(tree.body[0], ast.Expr) and isinstance(tree.body[0].value.value, str), file)
            rows = [type(node).__name__ for node in tree.body[1:]]
            self.assertLessEqual(set(rows), {"ImportFrom", "FunctionDef", "ClassDef", "Assign"})
            self.assertEqual(rows, sorted(rows, key=lambda row: row != "ImportFrom"))
            for node in tree.body[1:]:
                if isinstance(node, ast.Assign):
                    self.assertEqual(len(node.targets), 1)
                    ast.literal_eval(node.value)
            names = [node.name for node in tree.body if isinstance(node, (ast.FunctionDef, ast.ClassDef))]
            names += [node.targets[0].id for node in tree.body if isinstance(node, ast.Assign)]
            names += [alias.name for node in imports_of(tree) for alias in node.names]
            self.assertEqual(len(names), len(set(names)), file)

    def test_imports(self):
        told = trees()
        for file, tree in told.items():
            for node in imports_of(tree):
                self.assertTrue(node.level == 0 and all(alias.asname is None for alias in node.names))
                names = {alias.name for alias in node.names}
                if node.module in LIBRARY:
                    self.assertLessEqual(names, LIBRARY[node.module])
                    continue
                package, other = node.module.split(".")
                self.assertEqual(package, "supermoves")
                top = told[other].body
                defined = {row.name for row in top if isinstance(row, (ast.FunctionDef, ast.ClassDef))}
                defined |= {row.targets[0].id for row in top if isinstance(row, ast.Assign)}
                self.assertLessEqual(names, defined, file)

    def test_no_two_files_import_from_each_other(self):
        left = {file: {node.module.split(".")[1] for node in imports_of(tree) if node.module not in LIBRARY}
                for file, tree in trees().items()}
        while left:
            free = [file for file in left if not left[file] & set(left)]
            self.assertTrue(free, f"round and round: {sorted(left)}")
            left = {file: left[file] for file in left if file not in free}

    def test_names(self):
        for file, tree in trees().items():
            imported = {alias.name for node in imports_of(tree) for alias in node.names}
            own = bound_names(tree)
            for name in own:
                self.assertTrue(name in ("__init__", "__eq__") or not hasattr(builtins, name), f"{file}: {name}")
                self.assertNotIn(name, imported, f"{file}: {name}")
                self.assertRegex(name, r"^(_?[A-Za-z][A-Za-z0-9_]*|_|__init__|__eq__)$")
            used = {node.id for node in ast.walk(tree) if isinstance(node, ast.Name)}
            self.assertLessEqual(used & set(dir(builtins)), BUILTINS, file)
            self.assertLessEqual(imported, used, f"{file}: imported and not used")

    def test_methods_of_plain_values(self):
        classes = [node for tree in trees().values() for node in ast.walk(tree) if isinstance(node, ast.ClassDef)]
        own = {row.name for node in classes for row in node.body if isinstance(row, ast.FunctionDef)}
        # This one is named by the document, and modifies nothing.
        self.assertLessEqual(own & METHODS, {"copy"})
        for file, tree in trees().items():
            for node in ast.walk(tree):
                if isinstance(node, ast.Call) and isinstance(node.func, ast.Attribute):
                    self.assertIn(node.func.attr, METHODS | own, f"{file}:{node.lineno}")
