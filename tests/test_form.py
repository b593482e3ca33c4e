"""Looks whether the package's files keep to the rules of LANGUAGE.md that a look at each row can tell."""
import ast
import builtins
import pathlib
import re
import unittest

PACKAGE = pathlib.Path(__file__).resolve().parent.parent / "findhall"

STATEMENTS = (
    ast.Assign, ast.AugAssign, ast.AnnAssign, ast.If, ast.While, ast.For, ast.Return, ast.Break, ast.Continue,
    ast.Pass, ast.Raise, ast.Try, ast.Expr, ast.FunctionDef, ast.ClassDef, ast.ImportFrom,
)
EXPRESSIONS = (
    ast.Constant, ast.Name, ast.List, ast.Tuple, ast.Dict, ast.Set, ast.BinOp, ast.UnaryOp, ast.Compare, ast.BoolOp,
    ast.IfExp, ast.Call, ast.Attribute, ast.Subscript, ast.Slice, ast.ListComp, ast.JoinedStr, ast.FormattedValue,
    ast.Lambda,
)
OWN_OF_PYTHON = """
    len range enumerate zip min max sum abs sorted reversed int str bool list tuple dict set frozenset isinstance ord
    repr any all divmod Exception ValueError TypeError KeyError IndexError LookupError ZeroDivisionError
    ArithmeticError OverflowError RuntimeError NotImplementedError AttributeError StopIteration object float bytes
""".split()
METHODS = """
    append clear copy count endswith extend find get index insert isalnum isalpha isdigit islower isspace isupper items
    join keys ljust lower lstrip partition pop remove replace reverse rfind rjust rpartition rsplit rstrip setdefault
    split splitlines startswith strip update upper values zfill bit_length add discard __init__
""".split()
DUNDERS = ("__init__", "__eq__", "__repr__", "__str__", "__len__", "__all__", "__version__")
BANNED_WORDS = re.compile(
    r"\b(type|typing|typing_extensions|enum|Enum|IntEnum|StrEnum|Flag|IntFlag|Generic|Protocol|ABC|ABCMeta|namedtuple"
    r"|NamedTuple|TypedDict|TYPE_CHECKING|abstractmethod)\b|dataclass|overload|contextmanager")
WALKED = "zip enumerate reversed range items keys values".split()
WALKERS = "list tuple dict sorted sum any all enumerate zip min max join".split()
BANNED_NAMES = """
    register mro elements open input version_info with_traceback add_note format format_map
""".split()


def files():
    return sorted(path for path in PACKAGE.rglob("*") if "__pycache__" not in path.parts and path.is_file())


def parsed():
    return [(path, ast.parse(path.read_text("ascii"))) for path in files()]


def nodes(*kinds):
    return [(path, node) for path, tree in parsed() for node in ast.walk(tree) if isinstance(node, kinds)]


def name_called(node):
    called = node.func if isinstance(node, ast.Call) else None
    return called.id if isinstance(called, ast.Name) else called.attr if isinstance(called, ast.Attribute) else None


def names_bound(node):
    if isinstance(node, ast.Name):
        return [node.id] if isinstance(node.ctx, ast.Store) else []
    if isinstance(node, ast.arg):
        return [node.arg]
    if isinstance(node, (ast.FunctionDef, ast.ClassDef)):
        return [node.name]
    if isinstance(node, ast.Attribute):
        return [node.attr] if isinstance(node.ctx, ast.Store) else []
    return []


class FormTest(unittest.TestCase):
    def hold(self, rule, path, node, right):
        row = getattr(node, "lineno", 0)
        self.assertTrue(right, f"{rule}: {path.name}, row {row}")

    def test_files_and_signs(self):
        self.assertTrue(files())
        for path in files():
            text = path.read_bytes().decode("ascii")
            self.hold("L14", path, None, re.fullmatch(r"([a-z][a-z0-9_]*|__init__|__main__)\.py", path.name))
            self.hold("L14", path, None, all(sign == "\n" or " " <= sign <= "~" for sign in text))
            self.hold("L10", path, None, text.count("\n") <= 400)
            self.hold("L10", path, None, max(len(row) for row in text.split("\n")) <= 120)
            self.hold("L17", path, None, not BANNED_WORDS.search(text))
            self.hold("L27", path, None, not re.search(r"\\[^nt'\"]", text.replace(r"\\", "")))

    def test_imports(self):
        defined, drawn = {}, {}
        for path, tree in parsed():
            module = "findhall" if path.stem == "__init__" else "findhall." + path.stem
            defined[module] = {name for node in tree.body for part in ast.walk(node) for name in names_bound(part)}
            drawn[module] = []
            for node in tree.body:
                if isinstance(node, ast.ImportFrom) and node.module != "__future__":
                    self.hold("L2", path, node, node.level == 0 and node.module.startswith("findhall."))
                    drawn[module] += [node.module, "findhall"]
        for path, node in nodes(ast.ImportFrom):
            for name in node.names:
                self.hold("L16", path, node, name.name in defined.get(node.module, ("annotations",)))
        while drawn:
            free = [module for module in drawn if not any(other in drawn for other in drawn[module])]
            self.assertTrue(free, "L16: files draw from one another")
            for module in free:
                drawn.pop(module)

    def test_the_top_of_a_file(self):
        allowed = (ast.ImportFrom, ast.FunctionDef, ast.ClassDef, ast.Assign)
        for path, tree in parsed():
            bound = [name for node in tree.body for name in names_bound(node)]
            for at, node in enumerate(tree.body):
                docstring = at == 0 and ast.get_docstring(tree) is not None
                self.hold("L3", path, node, docstring or isinstance(node, allowed))
                if isinstance(node, ast.Assign):
                    bound += names_bound(node.targets[0])
            self.hold("L15", path, None, len(bound) == len(set(bound)))

    def test_statements_and_expressions(self):
        for path, node in nodes(ast.stmt):
            self.hold("L6", path, node, isinstance(node, STATEMENTS))
        for path, node in nodes(ast.expr):
            self.hold("L7", path, node, isinstance(node, EXPRESSIONS))
        for path, node in nodes(ast.Assign):
            self.hold("L6", path, node, len(node.targets) == 1)
        for path, node in nodes(ast.For, ast.While):
            self.hold("L6", path, node, not node.orelse)
        for path, node in nodes(ast.Try):
            self.hold("L6", path, node, not node.finalbody and all(one.type for one in node.handlers))
        for path, node in nodes(ast.ListComp):
            self.hold("L7", path, node, len(node.generators) == 1 and len(node.generators[0].ifs) <= 1)
        for path, node in nodes(ast.FormattedValue):
            self.hold("L7", path, node, isinstance(node.value, ast.Name) and node.format_spec is None)
        self.assertEqual(nodes(ast.Div, ast.MatMult), [], "L7")

    def test_plain_values(self):
        for path, node in nodes(ast.Constant):
            self.hold("L7", path, node, node.value is None or isinstance(node.value, (int, str)))
            self.hold("L27", path, node, not isinstance(node.value, str) or chr(37) not in node.value)
        for path, node in nodes(ast.Compare):
            for operation, right in zip(node.ops, node.comparators):
                if isinstance(operation, (ast.Is, ast.IsNot)):
                    plain = isinstance(right, ast.Constant) and right.value in (None, True, False)
                    self.hold("L20", path, node, plain)

    def test_functions(self):
        for path, node in nodes(ast.FunctionDef):
            asked = node.args
            self.hold("L4", path, node, not (asked.vararg or asked.kwarg or asked.kwonlyargs or asked.posonlyargs))
            self.hold("L4", path, node, not node.decorator_list)
            self.hold("L10", path, node, node.end_lineno - node.lineno < 40)

    def test_classes(self):
        methods, values = set(), set()
        for path, node in nodes(ast.ClassDef):
            self.hold("L5", path, node, len(node.bases) <= 1 and not node.keywords and not node.decorator_list)
            own = [part.name for part in node.body if isinstance(part, ast.FunctionDef)]
            self.hold("L18", path, node, len(own) == len(set(own)))
            methods.update(own)
            for part in node.body:
                self.hold("L5", path, part, isinstance(part, (ast.FunctionDef, ast.Pass, ast.Expr)))
        for path, node in nodes(ast.Attribute):
            values.update(names_bound(node))
        self.assertEqual(methods & values, set(), "L18")

    def test_names(self):
        for path, node in nodes(ast.AST):
            for name in names_bound(node):
                plain = re.fullmatch("[A-Za-z][A-Za-z0-9_]*", name) or name in DUNDERS
                self.hold("L12", path, node, plain and name not in BANNED_NAMES)
                if not isinstance(node, ast.Attribute) and name not in DUNDERS:
                    self.hold("L15", path, node, not hasattr(builtins, name) or isinstance(node, ast.FunctionDef))
            if isinstance(node, ast.Name) and hasattr(builtins, node.id):
                own = node.id in OWN_OF_PYTHON or (path.name == "__main__.py" and node.id in ("print", "__name__"))
                self.hold("L8", path, node, own)

    def test_locals_are_called_like_no_class_and_no_import(self):
        for path, tree in parsed():
            taken = [node.name for node in tree.body if isinstance(node, ast.ClassDef)]
            taken += [name.name for node in tree.body if isinstance(node, ast.ImportFrom) for name in node.names]
            for node in ast.walk(tree):
                if isinstance(node, (ast.Name, ast.arg)):
                    self.hold("L15", path, node, not set(names_bound(node)) & set(taken))

    def test_values_of_a_top_are_read_alone(self):
        for path, tree in parsed():
            kept = [node.targets[0].id for node in tree.body if isinstance(node, ast.Assign) and isinstance(
                node.value, (ast.List, ast.Dict))]
            read = []
            for node in ast.walk(tree):
                if isinstance(node, (ast.Subscript, ast.Attribute)):
                    read.append(node.value)
                elif isinstance(node, ast.Compare):
                    read += node.comparators
                elif isinstance(node, (ast.For, ast.comprehension)):
                    read.append(node.iter)
                elif name_called(node) in ("len", "list", "dict", "sorted"):
                    read += node.args
            for node in ast.walk(tree):
                if isinstance(node, ast.Name) and node.id in kept and isinstance(node.ctx, ast.Load):
                    self.hold("L15", path, node, node in read)

    def test_walked_at_once(self):
        for path, tree in parsed():
            walked = []
            for node in ast.walk(tree):
                if isinstance(node, (ast.For, ast.comprehension)):
                    walked.append(node.iter)
                elif name_called(node) in WALKERS:
                    walked += node.args if name_called(node) == "zip" else node.args[:1]
            for node in ast.walk(tree):
                self.hold("L23", path, node, name_called(node) not in WALKED or node in walked)

    def test_sets(self):
        for path, tree in parsed():
            beside = []
            for node in ast.walk(tree):
                if isinstance(node, ast.Compare):
                    beside += [node.left] + node.comparators
                elif name_called(node) in ("sorted", "len") and not node.keywords:
                    beside += node.args
            for node in ast.walk(tree):
                made = isinstance(node, ast.Set) or name_called(node) in ("set", "frozenset")
                self.hold("L24", path, node, not made or node in beside)

    def test_what_stands_by_itself_is_a_call(self):
        for path, tree in parsed():
            for node in ast.walk(tree):
                if isinstance(node, ast.Expr) and node not in tree.body[:1]:
                    self.hold("L6", path, node, isinstance(node.value, ast.Call))

    def test_methods(self):
        own = {node.name for path, node in nodes(ast.FunctionDef)}
        for path, node in nodes(ast.Attribute):
            self.hold("L17", path, node, node.attr not in BANNED_NAMES)
        for path, node in nodes(ast.Call):
            if isinstance(node.func, ast.Attribute) and path.name != "__main__.py":
                self.hold("L25", path, node, node.func.attr in METHODS or node.func.attr in own)


if __name__ == "__main__":
    unittest.main()
