"""The package keeps to those rules of LANGUAGE.md that can be seen without much ado."""

import ast
import builtins
import pathlib
import unittest
import warnings

FOLDER = pathlib.Path(__file__).resolve().parent.parent / "handsmade"
LIBRARY = {
    "heapq": {"heappush", "heappop", "heapify", "heapreplace", "heappushpop"},
    "math": {"gcd", "lcm", "isqrt", "comb", "perm", "factorial"},
    "itertools": {
        "product", "combinations", "permutations", "chain", "accumulate", "pairwise", "islice", "zip_longest",
    },
    "collections": {"defaultdict"},
}
BUILTINS = set(
    "len range enumerate zip min max sum abs sorted reversed int str bool bytes list tuple dict set frozenset "
    "isinstance ord repr any all divmod pow getattr hasattr setattr iter next map super property staticmethod "
    "classmethod Exception ValueError TypeError KeyError IndexError LookupError ZeroDivisionError ArithmeticError "
    "OverflowError RuntimeError NotImplementedError AttributeError StopIteration NotImplemented".split()
)
DOUBLE = ("__init__", "__eq__", "__len__", "__str__")
ITERATED = ("range", "zip", "enumerate", "reversed")
VIEWS = ("items", "keys", "values")
HANDED = ("list", "tuple", "dict", "sorted", "sum", "any", "all", "enumerate", "zip", "reversed", "min", "max", "len")
METHODS = set(
    "append clear copy count endswith extend find get index insert isalnum isalpha isdigit islower isspace isupper items "
    "join keys ljust lower lstrip partition pop remove replace reverse rfind rjust rpartition rsplit rstrip setdefault "
    "split splitlines startswith strip update upper values zfill bit_length isascii".split()
)
BARRED = (
    ast.Global, ast.AsyncFunctionDef, ast.AsyncFor, ast.AsyncWith, ast.Await, ast.GeneratorExp, ast.Div, ast.Import,
)


class Language(unittest.TestCase):
    def setUp(self):
        self.files = sorted(path for path in FOLDER.rglob("*") if "__pycache__" not in path.parts)
        self.trees = {}
        with warnings.catch_warnings():
            warnings.simplefilter("error")
            for path in self.files:
                text = path.read_text(encoding="utf-8")
                compile(text, str(path), "exec")
                self.trees[path.name] = ast.parse(text)

    def test_files(self):
        self.assertLessEqual(len(self.files), 100)
        for path in self.files:
            self.assertEqual(path.suffix, ".py")
            self.assertEqual(path.name, path.name.lower())
            text = path.read_text(encoding="utf-8")
            self.assertLessEqual({sign for sign in text if not " " <= sign <= "~"}, {"\n"}, path.name)
            lines = text.split("\n")
            self.assertLessEqual(len(lines), 399, path.name)
            self.assertLessEqual(max(len(line) for line in lines), 120, path.name)

    def test_functions_are_short(self):
        for name, tree in self.trees.items():
            for node in ast.walk(tree):
                if isinstance(node, ast.FunctionDef):
                    self.assertLessEqual(node.end_lineno - node.lineno + 1, 40, (name, node.name))

    def test_imports(self):
        for name, tree in self.trees.items():
            for node in ast.walk(tree):
                if isinstance(node, ast.ImportFrom):
                    self.assertEqual(node.level, 0)
                    words = {alias.name for alias in node.names}
                    self.assertFalse([alias for alias in node.names if alias.asname], name)
                    if node.module in LIBRARY:
                        self.assertLessEqual(words, LIBRARY[node.module], name)
                    else:
                        self.assertEqual(node.module.split(".")[0], "handsmade", name)
                        self.assertIn(node.module.split(".")[1] + ".py", self.trees)
                        self.defines(node.module.split(".")[1] + ".py", words)

    def defines(self, name, words):
        """An import names the very file that defines the name."""
        told = set()
        for node in self.trees[name].body:
            if isinstance(node, (ast.FunctionDef, ast.ClassDef)):
                told.add(node.name)
            if isinstance(node, ast.Assign):
                told.update(target.id for target in node.targets)
        self.assertLessEqual(words, told, name)

    def test_no_two_files_import_from_each_other(self):
        ons = {
            name: {node.module.split(".")[1] + ".py" for node in ast.walk(tree)
                   if isinstance(node, ast.ImportFrom) and node.module.startswith("handsmade.")}
            for name, tree in self.trees.items()
        }
        for _ in ons:
            ons = {name: on.union(*[ons[other] for other in on]) for name, on in ons.items()}
        self.assertEqual([name for name, on in ons.items() if name in on], [])

    def test_statements_and_expressions(self):
        for name, tree in self.trees.items():
            for node in ast.walk(tree):
                self.assertNotIsInstance(node, BARRED, (name, getattr(node, "lineno", 0)))
                if isinstance(node, ast.Constant):
                    self.assertNotIsInstance(node.value, (float, complex), name)
                    self.assertFalse(isinstance(node.value, str) and chr(37) in node.value, name)
                if isinstance(node, ast.Attribute):
                    self.assertNotEqual(node.attr, "sort", name)

    def test_names_are_no_builtins(self):
        for name, tree in self.trees.items():
            for node in ast.walk(tree):
                bound = []
                if isinstance(node, ast.Name) and isinstance(node.ctx, ast.Store):
                    bound.append(node.id)
                if isinstance(node, ast.arg):
                    bound.append(node.arg)
                if isinstance(node, (ast.FunctionDef, ast.ClassDef)):
                    bound.append(node.name)
                for word in bound:
                    if word not in DOUBLE:
                        self.assertFalse(hasattr(builtins, word), (name, word))
                        self.assertFalse(word.startswith("__") and not isinstance(node, ast.FunctionDef), (name, word))

    def test_no_local_name_is_an_import_or_a_class(self):
        for name, tree in self.trees.items():
            taken = {alias.name for node in tree.body if isinstance(node, ast.ImportFrom) for alias in node.names}
            taken |= {node.name for node in tree.body if isinstance(node, ast.ClassDef)}
            for node in ast.walk(tree):
                if isinstance(node, ast.arg):
                    self.assertNotIn(node.arg, taken, name)
                if isinstance(node, ast.Name) and isinstance(node.ctx, ast.Store):
                    self.assertNotIn(node.id, taken, name)

    def test_ranges_and_views_are_iterated_at_once(self):
        for name, tree in self.trees.items():
            parents = {child: node for node in ast.walk(tree) for child in ast.iter_child_nodes(node)}
            for node in ast.walk(tree):
                if not isinstance(node, ast.Call):
                    continue
                if getattr(node.func, "id", None) not in ITERATED and getattr(node.func, "attr", None) not in VIEWS:
                    continue
                over = parents[node]
                if isinstance(over, (ast.For, ast.comprehension)):
                    self.assertIs(over.iter, node, (name, node.lineno))
                elif isinstance(over, ast.Call):
                    self.assertIn(getattr(over.func, "id", None), HANDED, (name, node.lineno))
                else:
                    self.assertIsInstance(over, ast.Assign, (name, node.lineno))
                    self.assertEqual(node.func.id, "range", (name, node.lineno))

    def test_methods_called(self):
        own = {node.name for tree in self.trees.values() for node in ast.walk(tree) if isinstance(node, ast.FunctionDef)}
        for name, tree in self.trees.items():
            for node in ast.walk(tree):
                if isinstance(node, ast.Call) and isinstance(node.func, ast.Attribute):
                    self.assertIn(node.func.attr, METHODS | own, (name, node.lineno))

    def test_builtins_used(self):
        for name, tree in self.trees.items():
            for node in ast.walk(tree):
                if isinstance(node, ast.Name) and hasattr(builtins, node.id):
                    self.assertIn(node.id, BUILTINS, name)


if __name__ == "__main__":
    unittest.main()
