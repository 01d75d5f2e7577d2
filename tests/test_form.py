"""The form of the package's files: those rules of the language that can be read off the tree of a file."""

import ast
import builtins
import re
import unittest
from pathlib import Path

PACKAGE = Path(__file__).resolve().parent.parent / "planestacks"
NODES = (
    "Module Expr Constant ImportFrom alias FunctionDef arguments arg Return ClassDef Assign AugAssign Name Load "
    "Store Del Attribute Subscript Slice Starred Tuple List Dict Set ListComp DictComp SetComp comprehension Lambda "
    "If While For Break Continue Pass Raise Assert Delete Try ExceptHandler Call keyword JoinedStr FormattedValue "
    "BinOp Add Sub Mult FloorDiv Mod Pow LShift RShift BitAnd BitOr BitXor UnaryOp USub UAdd Invert Not "
    "BoolOp And Or Compare Eq NotEq Lt LtE Gt GtE Is IsNot In NotIn IfExp").split()
BUILTINS = (
    "len range enumerate zip min max sum abs sorted reversed int str bool bytes list tuple dict set isinstance ord "
    "repr any all divmod Exception ValueError TypeError KeyError IndexError LookupError ZeroDivisionError "
    "ArithmeticError OverflowError RuntimeError NotImplementedError AttributeError StopIteration").split()
METHODS = (
    "append clear copy count endswith extend find get index insert isalnum isalpha isdigit islower isspace isupper "
    "items join keys ljust lower lstrip partition pop remove replace reverse rfind rjust rpartition rsplit rstrip "
    "setdefault split splitlines startswith strip update upper values zfill bit_length sort add discard").split()
WORDS = (
    "type typing typing_extensions enum Enum IntEnum StrEnum Flag IntFlag Generic Protocol ABC ABCMeta namedtuple "
    "NamedTuple TypedDict TYPE_CHECKING abstractmethod").split()
UNUSED = "register mro elements open input version_info with_traceback add_note".split()


def files():
    return sorted(PACKAGE.glob("*.py"))


def tree_of(path):
    return ast.parse(path.read_text())


def bound_names(tree):
    """Every name that is bound somewhere below, with its line."""
    for node in ast.walk(tree):
        if isinstance(node, ast.Name) and not isinstance(node.ctx, ast.Load):
            yield node.id, node.lineno
        elif isinstance(node, ast.arg):
            yield node.arg, node.lineno
        elif isinstance(node, (ast.FunctionDef, ast.ClassDef)):
            yield node.name, node.lineno
        elif isinstance(node, ast.ExceptHandler) and node.name:
            yield node.name, node.lineno


def imported(tree):
    return [alias.asname or alias.name for node in tree.body if isinstance(node, ast.ImportFrom)
            for alias in node.names]


def own_methods():
    return sorted(part.name for path in files() for node in tree_of(path).body if isinstance(node, ast.ClassDef)
                  for part in node.body if isinstance(part, ast.FunctionDef))


def own_attributes():
    """The attributes that some object is given."""
    return sorted({node.attr for path in files() for node in ast.walk(tree_of(path))
                   if isinstance(node, ast.Attribute) and isinstance(node.ctx, ast.Store)})


def calls_stored(tree):
    """The lines on which zip, enumerate, reversed, range or items stand elsewhere than where they are iterated."""
    fine = set()
    for node in ast.walk(tree):
        if isinstance(node, (ast.For, ast.comprehension)):
            fine.add(id(node.iter))
        if isinstance(node, ast.Call) and isinstance(node.func, (ast.Name, ast.Attribute)):
            name = node.func.id if isinstance(node.func, ast.Name) else node.func.attr
            if name in ("list tuple dict sorted sum any all enumerate zip bytes min max join reversed len").split():
                fine.update(id(part) for part in node.args)
        if isinstance(node, ast.Compare):
            fine.update(id(part) for part in node.comparators)
    for node in ast.walk(tree):
        if isinstance(node, ast.Call) and id(node) not in fine:
            name = getattr(node.func, "id", None) or getattr(node.func, "attr", None)
            if name in ("zip", "enumerate", "reversed", "range", "items", "keys", "values"):
                yield node.lineno


class Form(unittest.TestCase):

    def test_the_folder_holds_nothing_else(self):
        others = [path.name for path in PACKAGE.iterdir() if path.suffix != ".py" and path.name != "__pycache__"]
        self.assertEqual(others, [])
        self.assertIn("__init__.py", [path.name for path in files()])

    def test_sizes_and_signs(self):
        for path in files():
            text = path.read_text()
            lines = text.split("\n")
            self.assertLessEqual(len(lines), 401, path.name)
            self.assertEqual([line for line in lines if len(line) > 120], [], path.name)
            self.assertEqual(re.findall("[^ -~\n]", text), [], path.name)
            for node in ast.walk(tree_of(path)):
                if isinstance(node, ast.FunctionDef):
                    self.assertLessEqual(node.end_lineno - node.lineno + 1, 40, (path.name, node.name))

    def test_words_that_do_not_occur(self):
        for path in files():
            words = re.findall(r"\w+", path.read_text())
            self.assertEqual([word for word in words if word in WORDS], [], path.name)
            for part in ("dataclass", "overload", "contextmanager"):
                self.assertNotIn(part, path.read_text(), path.name)

    def test_only_the_listed_constructs(self):
        for path in files():
            for node in ast.walk(tree_of(path)):
                where = (path.name, getattr(node, "lineno", 0), ast.dump(node)[:80])
                self.assertIn(node.__class__.__name__, NODES, where)
                self.assertFalse(isinstance(node, (ast.For, ast.While)) and node.orelse, where)
                self.assertFalse(isinstance(node, ast.Constant) and isinstance(node.value, (float, complex)), where)
                if isinstance(node, ast.FunctionDef):
                    self.assertEqual(node.decorator_list, [], where)
                    self.assertIsNone(node.args.vararg or node.args.kwarg, where)
                    self.assertEqual(node.args.posonlyargs, [], where)
                if isinstance(node, ast.BinOp) and isinstance(node.op, ast.Pow):
                    self.assertIsInstance(node.right, ast.Constant, where)
                if isinstance(node, ast.Compare):
                    for op, right in zip(node.ops, node.comparators):
                        if isinstance(op, (ast.Is, ast.IsNot)):
                            self.assertIsInstance(right, ast.Constant, where)
                            self.assertIn(right.value, (None, True, False), where)

    def test_imports(self):
        for path in files():
            for node in tree_of(path).body:
                if isinstance(node, ast.ImportFrom):
                    self.assertEqual(node.level, 0)
                    self.assertRegex(node.module, "^planestacks[.][a-z]+$")
                    source = PACKAGE / (node.module.split(".")[1] + ".py")
                    homes = [part.name for part in tree_of(source).body if hasattr(part, "name")]
                    homes += [target.id for part in tree_of(source).body if isinstance(part, ast.Assign)
                              for target in part.targets]
                    for alias in node.names:
                        self.assertIn(alias.name, homes, (path.name, node.lineno))

    def test_every_import_is_used(self):
        for path in files():
            tree = tree_of(path)
            used = [node.id for node in ast.walk(tree) if isinstance(node, ast.Name)]
            self.assertEqual([name for name in imported(tree) if name not in used], [], path.name)

    def test_no_two_files_import_from_each_other(self):
        wants = {path.stem: [node.module.split(".")[1] for node in tree_of(path).body
                             if isinstance(node, ast.ImportFrom)] for path in files()}
        settled = []
        while len(settled) < len(wants):
            more = [name for name in wants if name not in settled and all(want in settled for want in wants[name])]
            self.assertTrue(more, sorted(set(wants) - set(settled)))
            settled += more

    def test_module_level(self):
        for path in files():
            tree = tree_of(path)
            for at, node in enumerate(tree.body):
                where = (path.name, node.lineno)
                doc = at == 0 and isinstance(node, ast.Expr) and isinstance(node.value, ast.Constant)
                fine = (ast.ImportFrom, ast.FunctionDef, ast.ClassDef, ast.Assign)
                self.assertTrue(doc or isinstance(node, fine), where)
            names = imported(tree) + [node.name for node in tree.body if hasattr(node, "name")]
            names += [node.targets[0].id for node in tree.body if isinstance(node, ast.Assign)]
            self.assertEqual(len(names), len(set(names)), path.name)

    def test_names(self):
        for path in files():
            tree = tree_of(path)
            taken = imported(tree) + [node.name for node in tree.body if hasattr(node, "name")]
            tops = [node for node in tree.body if hasattr(node, "name")]
            for name, line in bound_names(tree):
                where = (path.name, line, name)
                if name != "__init__":
                    self.assertFalse(name.startswith("_"), where)
                    self.assertFalse(hasattr(builtins, name), where)
                self.assertNotIn(name, UNUSED, where)
                self.assertTrue(name not in taken or line in [top.lineno for top in tops], where)

    def test_builtins_and_methods(self):
        attributes = METHODS + own_methods() + own_attributes()
        for path in files():
            tree = tree_of(path)
            known = imported(tree) + [name for name, line in bound_names(tree)]
            for node in ast.walk(tree):
                if isinstance(node, ast.Name) and isinstance(node.ctx, ast.Load) and node.id not in known:
                    self.assertIn(node.id, BUILTINS, (path.name, node.lineno))
                if isinstance(node, ast.Attribute):
                    self.assertIn(node.attr, attributes, (path.name, node.lineno))

    def test_own_methods_and_attributes(self):
        kinds = (str, int, list, dict, set, bytes, tuple, Exception)
        taken = {name for kind in kinds for name in dir(kind)}
        for name in own_attributes() + [name for name in own_methods() if name != "__init__"]:
            self.assertNotIn(name, taken)
        self.assertEqual(set(own_methods()) & set(own_attributes()), set())

    def test_classes(self):
        for path in files():
            for node in tree_of(path).body:
                if isinstance(node, ast.ClassDef):
                    self.assertLessEqual(len(node.bases), 1, node.name)
                    for part in node.body:
                        doc = isinstance(part, ast.Expr) and isinstance(part.value, ast.Constant)
                        self.assertTrue(doc or isinstance(part, ast.FunctionDef), (path.name, part.lineno))

    def test_iterated_at_once(self):
        for path in files():
            self.assertEqual(list(calls_stored(tree_of(path))), [], path.name)

    def test_errors_are_raised_on_the_spot(self):
        for path in files():
            for node in ast.walk(tree_of(path)):
                if isinstance(node, ast.Raise) and node.exc is not None:
                    self.assertIsInstance(node.exc, ast.Call, (path.name, node.lineno))
                if isinstance(node, ast.ExceptHandler):
                    self.assertIsNotNone(node.type, (path.name, node.lineno))

    def test_strings(self):
        for path in files():
            for node in ast.walk(tree_of(path)):
                if isinstance(node, ast.Constant) and isinstance(node.value, str):
                    self.assertNotIn("%", node.value, (path.name, node.lineno))


if __name__ == "__main__":
    unittest.main()
