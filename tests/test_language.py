"""The rules of the language subset that can be seen in the files of the package."""

import ast
import builtins
import functools
import pathlib
import re
import unittest

FOLDER = pathlib.Path(__file__).resolve().parent.parent / "twoslots"
BUILTINS = """len range enumerate zip min max sum abs sorted reversed int str bool list tuple dict set isinstance ord
repr any all divmod pow ValueError TypeError KeyError map super""".split()
METHODS = """append clear copy count endswith extend find get index insert isalnum isalpha isdigit islower isspace
isupper items join keys ljust lower lstrip partition pop remove replace reverse rfind rjust rpartition rsplit rstrip
setdefault split splitlines startswith strip update upper values zfill bit_length""".split()
LIBRARY = {
    "heapq": ["heappush", "heappop", "heapify"],
    "math": ["gcd", "lcm", "isqrt", "comb", "perm", "factorial"],
    "itertools": ["product", "combinations", "permutations"],
}
BARRED_WORDS = """type typing typing_extensions enum Enum IntEnum StrEnum Flag IntFlag Generic Protocol ABC ABCMeta
namedtuple NamedTuple TypedDict TYPE_CHECKING abstractmethod""".split()
BARRED_NAMES = """register mro elements open input law version_info with_traceback add_note attrgetter breakpoint
builtins compile copyright credits delattr dir eval exec exit gc getattr globals hasattr help id importlib license
locals methodcaller os quit setattr type vars""".split()
BARRED_ATTRIBUTES = """items keys values pop update append clear extend insert remove reverse setdefault sort args
encode decode hex fromhex format""".split()
STATEMENTS = (ast.FunctionDef, ast.ClassDef, ast.Return, ast.Delete, ast.Assign, ast.AugAssign, ast.For, ast.While,
              ast.If, ast.Raise, ast.ImportFrom, ast.Expr, ast.Pass, ast.Break, ast.Continue, ast.Try)
EXPRESSIONS_BARRED = (ast.GeneratorExp, ast.Set, ast.SetComp, ast.NamedExpr, ast.Await, ast.Yield, ast.YieldFrom,
                      ast.Starred)


@functools.lru_cache(maxsize=1)
def trees():
    return {path.name: ast.parse(path.read_text()) for path in sorted(FOLDER.glob("*.py"))}


def functions_of(tree):
    return [node for node in ast.walk(tree) if isinstance(node, ast.FunctionDef)]


def imported(tree):
    return [alias.name for node in tree.body if isinstance(node, ast.ImportFrom) for alias in node.names]


def local_names(function):
    """Parameters, and names that are assigned in a function."""
    names = [part.arg for part in ast.walk(function) if isinstance(part, ast.arg)]
    return names + [part.id for part in ast.walk(function)
                    if isinstance(part, ast.Name) and isinstance(part.ctx, ast.Store)]


class Files(unittest.TestCase):
    def test_folder(self):
        for path in FOLDER.iterdir():
            if path.name != "__pycache__":
                self.assertRegex(path.name, r"^([a-z][a-z0-9_]*|__init__)\.py$")

    def test_sizes_and_characters(self):
        for path in FOLDER.glob("*.py"):
            text = path.read_text()
            lines = text.split("\n")
            self.assertLessEqual(len(lines), 400, path)
            self.assertLessEqual(max(len(line) for line in lines), 120, path)
            self.assertTrue(all(" " <= sign <= "~" or sign == "\n" for sign in text), path)
            for function in functions_of(ast.parse(text)):
                self.assertLessEqual(function.end_lineno - function.lineno + 1, 40, (path, function.name))

    def test_imports(self):
        uses = {}
        for name, tree in trees().items():
            uses[name] = []
            for node in ast.walk(tree):
                self.assertNotIsInstance(node, ast.Import, name)
                if isinstance(node, ast.ImportFrom):
                    self.assertIn(node, tree.body)
                    self.assertEqual(node.level, 0)
                    for alias in node.names:
                        self.assertIsNone(alias.asname)
                        if node.module in LIBRARY:
                            self.assertIn(alias.name, LIBRARY[node.module])
                            continue
                        self.assertTrue(node.module.startswith("twoslots."))
                        file = node.module.split(".")[1] + ".py"
                        uses[name].append(file)
                        self.assertIn(alias.name, self.defined(trees()[file]), (name, alias.name))
        while uses:
            free = [name for name in uses if not any(other in uses for other in uses[name])]
            self.assertTrue(free, uses)
            uses = {name: uses[name] for name in uses if name not in free}

    def defined(self, tree):
        names = [node.name for node in tree.body if isinstance(node, (ast.FunctionDef, ast.ClassDef))]
        return names + [node.targets[0].id for node in tree.body if isinstance(node, ast.Assign)]

    def test_nothing_is_imported_in_vain(self):
        for name, tree in trees().items():
            words = [node.id for node in ast.walk(tree) if isinstance(node, ast.Name)]
            for word in imported(tree):
                self.assertIn(word, words, name)


class Code(unittest.TestCase):
    def each_node(self):
        for name, tree in trees().items():
            for node in ast.walk(tree):
                yield name, node

    def test_statements_and_expressions(self):
        for name, node in self.each_node():
            if isinstance(node, ast.stmt):
                self.assertIsInstance(node, STATEMENTS, (name, node.lineno))
            self.assertNotIsInstance(node, EXPRESSIONS_BARRED, (name, getattr(node, "lineno", 0)))
            if isinstance(node, (ast.FunctionDef, ast.ClassDef)):
                self.assertEqual(node.decorator_list, [], name)
            if isinstance(node, ast.BinOp):
                self.assertNotIsInstance(node.op, (ast.Div, ast.MatMult, ast.Pow), (name, node.lineno))
            if isinstance(node, ast.Compare) and any(isinstance(op, (ast.Is, ast.IsNot)) for op in node.ops):
                self.assertIsInstance(node.comparators[0], ast.Constant, (name, node.lineno))
            if isinstance(node, ast.arguments):
                self.assertFalse(node.vararg or node.kwarg or node.kwonlyargs or node.posonlyargs)

    def test_constants(self):
        for name, tree in trees().items():
            docstrings = [ast.get_docstring(node, clean=False) for node in ast.walk(tree)
                          if isinstance(node, (ast.Module, ast.FunctionDef, ast.ClassDef))]
            for node in ast.walk(tree):
                if isinstance(node, ast.Constant) and isinstance(node.value, str):
                    self.assertNotIn("%", node.value, name)
                    self.assertFalse(node.value.startswith("__") and node.value.endswith("__"))
                    self.assertFalse(node.value.endswith(("._", ".__")))
                    if node.value not in docstrings:
                        self.assertFalse(set(re.findall("[A-Za-z_]+", node.value)) & set(BARRED_WORDS), node.value)
                if isinstance(node, ast.Constant):
                    self.assertNotIsInstance(node.value, (float, complex, bytes))

    def test_names(self):
        for name, tree in trees().items():
            classes = [node.name for node in tree.body if isinstance(node, ast.ClassDef)]
            for node in ast.walk(tree):
                words = [getattr(node, part, None) for part in ("id", "attr", "arg", "name")]
                for word in [word for word in words if isinstance(word, str)]:
                    self.assertNotIn(word, BARRED_WORDS + BARRED_NAMES, name)
                    self.assertRegex(word, r"^(_?[A-Za-z][A-Za-z0-9_]*|_|__(init|eq)__)$", name)
            for function in functions_of(tree):
                for word in local_names(function):
                    self.assertNotIn(word, dir(builtins), (name, function.name))
                    self.assertNotIn(word, classes + imported(tree), (name, function.name))
                    self.assertFalse(word.startswith("_") and word != "_", (name, function.name))

    def test_builtins(self):
        for name, node in self.each_node():
            if isinstance(node, ast.Name) and hasattr(builtins, node.id):
                self.assertIn(node.id, BUILTINS, name)

    def test_methods_and_attributes(self):
        own = [node.name for _, node in self.each_node() if isinstance(node, ast.FunctionDef)]
        stored = [node.attr for _, node in self.each_node()
                  if isinstance(node, ast.Attribute) and isinstance(node.ctx, ast.Store)]
        for name, node in self.each_node():
            if isinstance(node, ast.Call) and isinstance(node.func, ast.Attribute):
                self.assertIn(node.func.attr, METHODS + own, (name, node.lineno))
            elif isinstance(node, ast.Attribute):
                self.assertIn(node.attr, stored + METHODS + own, (name, node.lineno))
        for word in stored:
            self.assertNotIn(word, BARRED_ATTRIBUTES)

    def test_methods_are_no_attributes_of_their_class(self):
        for name, node in self.each_node():
            if isinstance(node, ast.ClassDef):
                methods = [part.name for part in node.body if isinstance(part, ast.FunctionDef)]
                self.assertEqual(len(methods), len(set(methods)))
                stored = [part.attr for part in ast.walk(node)
                          if isinstance(part, ast.Attribute) and isinstance(part.ctx, ast.Store)]
                self.assertFalse(set(methods) & set(stored), (name, node.name))
                self.assertLessEqual([word for word in methods if word.startswith("__")], ["__init__", "__eq__"])

    def test_own_errors_alone_are_caught(self):
        errors = [node.name for node in trees()["errors.py"].body if isinstance(node, ast.ClassDef)]
        for name, node in self.each_node():
            if isinstance(node, ast.Try):
                for handler in node.handlers:
                    kinds = handler.type.elts if isinstance(handler.type, ast.Tuple) else [handler.type]
                    for kind in kinds:
                        self.assertIn(getattr(kind, "id", None), errors, (name, node.lineno))
                for part in node.finalbody:
                    self.assertIsInstance(part, ast.Assign, (name, part.lineno))
                    self.assertIsInstance(part.targets[0], (ast.Name, ast.Attribute), (name, part.lineno))
                    self.assertIsInstance(part.value, (ast.Name, ast.Attribute), (name, part.lineno))

    def test_views_are_iterated_at_once(self):
        at_once = set()
        for _, node in self.each_node():
            if isinstance(node, (ast.For, ast.comprehension)):
                at_once.add(ast.unparse(node.iter))
            if isinstance(node, ast.Call) and isinstance(node.func, ast.Name):
                at_once.update(ast.unparse(part) for part in node.args)
        for name, node in self.each_node():
            if isinstance(node, ast.Call):
                word = getattr(node.func, "id", None) or getattr(node.func, "attr", None)
                if word in ("zip", "enumerate", "reversed", "range", "items", "keys", "values", "map"):
                    self.assertIn(ast.unparse(node), at_once, (name, node.lineno))

    def test_module_level(self):
        for name, tree in trees().items():
            self.assertIsNotNone(ast.get_docstring(tree), name)
            for node in tree.body[1:]:
                self.assertIsInstance(node, (ast.ImportFrom, ast.FunctionDef, ast.ClassDef, ast.Assign), name)
                if isinstance(node, ast.Assign):
                    self.check_plain_value(name, node.value)
                    self.assertEqual(len(node.targets), 1)

    def check_plain_value(self, name, node):
        """A constant, or a tuple or dict of constants."""
        parts = [node]
        if isinstance(node, ast.Tuple):
            parts = node.elts
        elif isinstance(node, ast.Dict):
            parts = node.keys + node.values
        for part in parts:
            self.assertIsInstance(part, ast.Constant, name)


if __name__ == "__main__":
    unittest.main()
