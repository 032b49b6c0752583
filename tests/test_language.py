"""Looks at the package's own text for what ../shared/LANGUAGE.md rules, as far as that can be seen so."""

import ast
import builtins
import pathlib
import re
import unittest

FOLDER = pathlib.Path(__file__).resolve().parent.parent / "sealedkinds"
FILES = sorted(path for path in FOLDER.iterdir() if path.name != "__pycache__")
TREES = {path.stem: ast.parse(path.read_text()) for path in FILES}

BUILTINS = set("""len range enumerate zip min max sum abs sorted reversed int str bool list tuple dict set isinstance ord repr
any all divmod ValueError TypeError LookupError RuntimeError OverflowError""".split())
METHODS = set("""append clear copy count endswith extend find get index insert isalnum isalpha isdigit islower isspace isupper
items join keys ljust lower lstrip partition pop remove replace reverse rfind rjust rpartition rsplit rstrip setdefault split
splitlines startswith strip update upper values zfill bit_length""".split())
BARRED = set("""mro elements open input law version_info with_traceback add_note register attrgetter breakpoint builtins compile
copyright credits delattr dir eval exec exit gc getattr globals hasattr help id importlib license locals methodcaller os quit
setattr super type vars sys""".split())
BARRED_WORDS = r"""\b(type|typing|typing_extensions|enum|Enum|IntEnum|StrEnum|Flag|IntFlag|Generic|Protocol|ABC|ABCMeta|namedtuple
|NamedTuple|TypedDict|TYPE_CHECKING|abstractmethod)\b|dataclass|overload|contextmanager|_wall|_WallAttr""".replace("\n", "")
DOUBLE = ("__init__", "__len__", "__eq__")
NODES = (
    ast.AsyncFunctionDef, ast.AsyncFor, ast.AsyncWith, ast.Await, ast.Global, ast.GeneratorExp, ast.Yield, ast.YieldFrom,
    ast.With, ast.Div, ast.MatMult, ast.AnnAssign, ast.Import, ast.NamedExpr, ast.Set,
)


def docstrings(tree):
    """The nodes of all docstrings."""
    found = []
    for node in ast.walk(tree):
        if isinstance(node, (ast.Module, ast.ClassDef, ast.FunctionDef)) and ast.get_docstring(node) is not None:
            found.append(node.body[0].value)
    return found


def bound_names(node):
    """The names of parameters and local variables in a node."""
    for part in ast.walk(node):
        if isinstance(part, ast.arg):
            yield part.arg
        elif isinstance(part, ast.Name) and not isinstance(part.ctx, ast.Load):
            yield part.id


def top_names(tree):
    """The names bound at the top of a file, imports aside."""
    found = []
    for node in tree.body:
        if isinstance(node, (ast.FunctionDef, ast.ClassDef)):
            found.append(node.name)
        elif isinstance(node, ast.Assign):
            found.append(node.targets[0].id)
    return found


def imports(tree):
    return [node for node in tree.body if isinstance(node, ast.ImportFrom)]


class Language(unittest.TestCase):
    def test_files(self):
        self.assertIn("__init__", TREES)
        for path in FILES:
            self.assertTrue(re.fullmatch(r"[a-z][a-z_]*\.py|__init__\.py", path.name), path)
            text = path.read_text()
            self.assertTrue(all(sign == "\n" or " " <= sign <= "~" for sign in text), path)
            rows = text.split("\n")
            self.assertLessEqual(len(rows), 399, path)
            self.assertLessEqual(max(map(len, rows)), 120, path)

    def test_sizes_of_functions(self):
        for name, tree in TREES.items():
            for node in ast.walk(tree):
                if isinstance(node, ast.FunctionDef):
                    self.assertLessEqual(node.end_lineno - node.lineno + 1, 40, (name, node.name))
                    self.assertEqual(node.decorator_list, [], (name, node.name))
                    self.assertIsNotNone(ast.get_docstring(node) or node.name in DOUBLE or None, (name, node.name))

    def test_what_stands_at_the_top(self):
        for name, tree in TREES.items():
            self.assertIsNotNone(ast.get_docstring(tree), name)
            rest = [node for node in tree.body[1:] if not isinstance(node, ast.ImportFrom)]
            self.assertEqual(tree.body[1 + len(imports(tree)):], rest, name)
            for node in rest:
                self.assertIsInstance(node, (ast.FunctionDef, ast.ClassDef, ast.Assign), name)
                if isinstance(node, ast.Assign):
                    self.assertEqual([isinstance(target, ast.Name) for target in node.targets], [True], name)
                    self.assertIsInstance(node.value, (ast.Constant, ast.Dict, ast.Tuple), name)
            self.assertEqual(len(top_names(tree)), len(set(top_names(tree))), name)

    def test_imports(self):
        ahead = {}
        for name, tree in TREES.items():
            ahead[name] = set()
            for node in imports(tree):
                package, _, other = node.module.partition(".")
                self.assertEqual((package, node.level), ("sealedkinds", 0), name)
                for alias in node.names:
                    self.assertIsNone(alias.asname)
                    self.assertIn(alias.name, top_names(TREES[other]), name)
                    self.assertNotIn(alias.name, list(bound_names(tree)) + top_names(tree), name)
                ahead[name].add(other)
        while ahead:
            free = [name for name, others in ahead.items() if not others & set(ahead)]
            self.assertTrue(free, "files import one another: " + " ".join(ahead))
            ahead = {name: others for name, others in ahead.items() if name not in free}

    def test_nodes(self):
        for name, tree in TREES.items():
            for node in ast.walk(tree):
                self.assertNotIsInstance(node, NODES, name)
                if isinstance(node, ast.Constant):
                    self.assertNotIsInstance(node.value, (float, complex, bytes), name)
                if isinstance(node, ast.Compare):
                    for sign, right in zip(node.ops, node.comparators):
                        if isinstance(sign, (ast.Is, ast.IsNot)):
                            self.assertIn(ast.unparse(right), ("None", "True", "False"), name)
                if isinstance(node, ast.Assign) and isinstance(node.value, ast.Call):
                    self.assertNotIn(ast.unparse(node.value.func), ("zip", "enumerate", "reversed", "range", "map"), name)
                    self.assertNotRegex(ast.unparse(node.value.func), r"\.(items|keys|values)$", name)

    def is_plain_last(self, node):
        """Whether it may stand in a `finally`: assignments of names, appends of such, tests by `is None`."""
        if isinstance(node, ast.If):
            return bool(re.fullmatch(r"[a-z_.]+ is (not )?None", ast.unparse(node.test))) and all(map(self.is_plain_last, node.body + node.orelse))
        return bool(re.fullmatch(r"[a-z_.]+ = [a-z_.]+|[a-z_.]+ -= [0-9]+|[a-z_.]+\.append\(\('[a-z]+', [a-z]+\)\)", ast.unparse(node)))

    def test_errors_that_are_caught(self):
        own = {node.name for node in TREES["errors"].body if isinstance(node, ast.ClassDef)}
        for name, tree in TREES.items():
            for node in ast.walk(tree):
                if isinstance(node, ast.Try):
                    for last in node.finalbody:
                        self.assertTrue(self.is_plain_last(last), ast.unparse(last))
                    for handler in node.handlers:
                        caught = handler.type.elts if isinstance(handler.type, ast.Tuple) else [handler.type]
                        self.assertLessEqual({ast.unparse(word) for word in caught}, own, name)
                        self.assertIsNone(handler.name, name)
                if isinstance(node, ast.Raise) and node.exc is not None:
                    self.assertIsInstance(node.exc, ast.Call, name)
                    self.assertIn(ast.unparse(node.exc.func), own, name)
                    self.assertIsNone(node.cause, name)

    def test_names(self):
        for name, tree in TREES.items():
            classes = [node.name for node in ast.walk(tree) if isinstance(node, ast.ClassDef)]
            for bound in bound_names(tree):
                self.assertNotIn(bound, dir(builtins), name)
                self.assertNotIn(bound, classes, name)
                self.assertNotIn(bound, BARRED, name)
                self.assertTrue(bound == "_" or re.fullmatch(r"_?[A-Za-z][A-Za-z0-9_]*", bound), (name, bound))
            for bound in top_names(tree):
                self.assertNotIn(bound, dir(builtins), name)
                self.assertNotIn(bound, BARRED, name)
            known = set(bound_names(tree)) | set(top_names(tree)) | {a.name for node in imports(tree) for a in node.names}
            for node in ast.walk(tree):
                if isinstance(node, ast.Name) and isinstance(node.ctx, ast.Load):
                    self.assertIn(node.id, known | BUILTINS, name)
                    self.assertNotEqual(node.id, "_", name)

    def test_attributes_and_methods(self):
        own, attributes = set(), set()
        for name, tree in TREES.items():
            for node in ast.walk(tree):
                if isinstance(node, ast.ClassDef):
                    methods = [part.name for part in node.body if isinstance(part, ast.FunctionDef)]
                    self.assertEqual(len(methods), len(set(methods)), name)
                    fields = {part.attr for part in ast.walk(node) if isinstance(part, ast.Attribute)
                              and isinstance(part.ctx, ast.Store)}
                    self.assertFalse(fields & set(methods), name)
                    own |= set(methods)
                    attributes |= fields
        for word in own | attributes:
            self.assertFalse(any(hasattr(value, word) for value in ("", 0, [], {}, set(), b"")) and word not in DOUBLE, word)
        for name, tree in TREES.items():
            for node in ast.walk(tree):
                if isinstance(node, ast.Call) and isinstance(node.func, ast.Attribute):
                    self.assertIn(node.func.attr, METHODS | own, name)
                elif isinstance(node, ast.Attribute):
                    self.assertIn(node.attr, METHODS | own | attributes, name)

    def test_double_underscore_methods(self):
        for name, tree in TREES.items():
            for node in ast.walk(tree):
                if isinstance(node, ast.FunctionDef) and node.name.startswith("__"):
                    self.assertIn(node.name, DOUBLE, name)
                    if node.name == "__eq__":
                        self.assertRegex(ast.unparse(node.body[0]), r"^if not isinstance\(other, [A-Z][a-z]+\):\n    return False$")
                    if node.name == "__len__":
                        self.assertRegex(ast.unparse(node.body[-1]), r"^return len\(")

    def test_strings(self):
        for name, tree in TREES.items():
            texts = docstrings(tree)
            for node in ast.walk(tree):
                if isinstance(node, ast.Constant) and isinstance(node.value, str) and node not in texts:
                    self.assertNotIn("%", node.value, name)
                    self.assertNotRegex(node.value, BARRED_WORDS, name)
                if isinstance(node, (ast.Name, ast.FunctionDef)):
                    self.assertNotRegex(getattr(node, "id", None) or getattr(node, "name", ""), BARRED_WORDS, name)


if __name__ == "__main__":
    unittest.main()
