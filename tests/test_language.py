"""Those rules of LANGUAGE.md that can be seen in the package's files by themselves.

A rule that isn't looked at here still holds.
"""

import ast
import builtins
import pathlib
import re
import unittest

PACKAGE = pathlib.Path(__file__).resolve().parent.parent / "seasonland"

ALLOWED_NODES = set("""
Module Expr Constant ImportFrom alias FunctionDef arguments arg ClassDef Assign AugAssign If While For Return Break
Continue Pass Raise Try ExceptHandler Call keyword Name Load Store Attribute Subscript Slice List Tuple Dict Set
BinOp Add Sub Mult FloorDiv Mod Pow BitAnd BitOr BitXor LShift RShift UnaryOp USub UAdd Invert Not BoolOp And Or
Compare Eq NotEq Lt LtE Gt GtE In NotIn Is IsNot IfExp ListComp comprehension Lambda JoinedStr FormattedValue
""".split())

ALLOWED_BUILTINS = set("""
len range enumerate zip min max sum abs sorted reversed int str bool list tuple dict set frozenset isinstance ord repr
any all divmod Exception ValueError TypeError KeyError IndexError LookupError ZeroDivisionError ArithmeticError
OverflowError RuntimeError NotImplementedError AttributeError StopIteration
""".split())

ALLOWED_METHODS = set("""
append clear copy count endswith extend find get index insert isalnum isalpha isdigit islower isspace isupper items
join keys ljust lower lstrip partition pop remove replace reverse rfind rjust rpartition rsplit rstrip setdefault split
splitlines startswith strip update upper values zfill bit_length
""".split())

WORDS_NOWHERE = re.compile(
    r"\b(type|typing|typing_extensions|enum|Enum|IntEnum|StrEnum|Flag|IntFlag|Generic|Protocol|ABC|ABCMeta|namedtuple"
    r"|NamedTuple|TypedDict|TYPE_CHECKING|abstractmethod)\b|dataclass|overload|contextmanager")

WALKERS = set("list tuple dict sorted sum any all enumerate zip min max".split())

NAMES_NOWHERE = set("register mro elements open input version_info with_traceback add_note format format_map".split())


def sources():
    return {path: path.read_text("utf-8") for path in sorted(PACKAGE.rglob("*.py"))}


def nodes(tree, *kinds):
    return [node for node in ast.walk(tree) if isinstance(node, kinds)]


def names_at_top(tree):
    found = []
    for node in tree.body:
        if isinstance(node, (ast.FunctionDef, ast.ClassDef)):
            found.append(node.name)
        elif isinstance(node, ast.Assign):
            found.append(node.targets[0].id)
        elif isinstance(node, ast.ImportFrom):
            found += [each.asname or each.name for each in node.names]
    return found


def names_bound_within(tree):
    """Parameters and locals."""
    functions = nodes(tree, ast.FunctionDef, ast.Lambda)
    found = [each.arg for function in functions for each in function.args.args]
    return found + [each.id for function in functions for each in nodes(function, ast.Name)
                    if isinstance(each.ctx, ast.Store)]


def own_names(trees):
    """The methods and values of the package's classes."""
    found = set()
    for tree in trees:
        for kind in nodes(tree, ast.ClassDef):
            found |= {method.name for method in nodes(kind, ast.FunctionDef)}
            found |= {each.attr for each in nodes(kind, ast.Attribute) if isinstance(each.ctx, ast.Store)}
    return found


class TestLanguage(unittest.TestCase):
    def setUp(self):
        self.sources = sources()
        self.trees = {path: ast.parse(source) for path, source in self.sources.items()}

    def test_files(self):
        self.assertIn(PACKAGE / "__init__.py", self.sources)
        for path in PACKAGE.rglob("*"):
            if "__pycache__" not in path.parts:
                self.assertRegex(path.name, r"^([a-z][a-z0-9_]*|__init__|__main__)\.py$")
                self.assertNotIn(path.stem, dir(builtins))

    def test_signs_words_and_sizes(self):
        for path, source in self.sources.items():
            self.assertRegex(source, r"\A[ -~\n]*\Z", path)
            self.assertIsNone(WORDS_NOWHERE.search(source), path)
            self.assertLessEqual(len(source.splitlines()), 400, path)
            for line in source.splitlines():
                self.assertLessEqual(len(line), 120, line)
            for function in nodes(self.trees[path], ast.FunctionDef):
                self.assertLessEqual(function.end_lineno - function.lineno + 1, 40, function.name)

    def test_statements_and_expressions(self):
        for path, tree in self.trees.items():
            for node in ast.walk(tree):
                self.assertIn(type(node).__name__, ALLOWED_NODES, f"{path}:{getattr(node, 'lineno', 0)}")
            for node in nodes(tree, ast.Assign):
                self.assertEqual(len(node.targets), 1)
                self.assertNotIsInstance(node.targets[0], (ast.Tuple, ast.List))
            for node in nodes(tree, ast.For, ast.While):
                self.assertEqual(node.orelse, [])
            for node in nodes(tree, ast.Constant):
                self.assertIsInstance(node.value, (int, str, type(None)))
            for node in nodes(tree, ast.FunctionDef, ast.ClassDef):
                self.assertEqual(node.decorator_list, [])

    def test_the_top_of_a_file(self):
        for path, tree in self.trees.items():
            self.assertIsNotNone(ast.get_docstring(tree), path)
            for node in tree.body[1:]:
                self.assertIsInstance(node, (ast.ImportFrom, ast.FunctionDef, ast.ClassDef, ast.Assign), path)
            bound = names_at_top(tree)
            self.assertEqual(len(bound), len(set(bound)), path)
            functions = {node.name for node in tree.body if isinstance(node, ast.FunctionDef)}
            for node in tree.body:
                if isinstance(node, ast.Assign):
                    self.assertLessEqual({each.id for each in nodes(node.value, ast.Name)}, functions, path)

    def test_imports(self):
        drawn = {}
        for path, tree in self.trees.items():
            drawn[path] = []
            for node in nodes(tree, ast.ImportFrom):
                self.assertEqual((node.level, node.module.split(".")[0]), (0, "seasonland"))
                source = PACKAGE / (node.module.split(".", 1)[1].replace(".", "/") + ".py")
                defined = [each.name for each in self.trees[source].body if hasattr(each, "name")]
                defined += [each.targets[0].id for each in self.trees[source].body if isinstance(each, ast.Assign)]
                self.assertLessEqual({each.name for each in node.names}, set(defined), path)
                drawn[path].append(source)
        while drawn:
            free = [path for path, others in drawn.items() if not set(others) & set(drawn)]
            self.assertTrue(free, f"files draw from one another: {list(drawn)}")
            drawn = {path: others for path, others in drawn.items() if path not in free}

    def test_names(self):
        for path, tree in self.trees.items():
            top = names_at_top(tree)
            within = names_bound_within(tree)
            for name in top + within:
                self.assertRegex(name, r"^[A-Za-z][A-Za-z0-9_]*$", path)
                self.assertNotIn(name, dir(builtins), path)
                self.assertNotIn(name, NAMES_NOWHERE, path)
            self.assertEqual(set(within) & set(top), set(), path)
            for node in nodes(tree, ast.Name):
                self.assertIn(node.id, set(top) | set(within) | ALLOWED_BUILTINS, path)

    def test_ranges_and_their_like_are_walked_at_once(self):
        for path, tree in self.trees.items():
            walked = [node.iter for node in nodes(tree, ast.For, ast.comprehension)]
            for node in nodes(tree, ast.Call):
                if isinstance(node.func, ast.Name) and node.func.id in WALKERS:
                    walked += node.args[:1]
            for node in nodes(tree, ast.Call):
                if isinstance(node.func, ast.Name) and node.func.id in ("zip", "enumerate", "reversed", "range"):
                    self.assertTrue([each for each in walked if each is node], f"{path}:{node.lineno}")

    def test_methods_and_values(self):
        own = own_names(self.trees.values())
        plain = {name for kind in (str, int, list, dict, set, bytes) for name in dir(kind)}
        self.assertEqual(own & plain - {"__init__"}, set())
        self.assertEqual(own & NAMES_NOWHERE, set())
        for path, tree in self.trees.items():
            for node in nodes(tree, ast.Attribute):
                self.assertIn(node.attr, own | ALLOWED_METHODS, path)


if __name__ == "__main__":
    unittest.main()
