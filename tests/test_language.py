"""The package's files keep to the part of Python that they are written in; a rule's number leads each fault."""

import ast
import builtins
import pathlib
import re
import unittest

PACKAGE = pathlib.Path(__file__).resolve().parent.parent / "bandhouse"

BUILT_IN = set(
    "len range enumerate zip min max sum abs sorted reversed int str bool list tuple dict set frozenset isinstance ord "
    "repr any all divmod Exception ValueError TypeError KeyError IndexError LookupError ZeroDivisionError "
    "ArithmeticError OverflowError RuntimeError NotImplementedError AttributeError StopIteration".split()
)
METHODS = set(
    "append clear copy count endswith extend find get index insert isalnum isalpha isdigit islower isspace isupper "
    "items join keys ljust lower lstrip partition pop remove replace reverse rfind rjust rpartition rsplit rstrip "
    "setdefault split splitlines startswith strip update upper values zfill bit_length".split()
)
WALKED = {"zip", "enumerate", "reversed", "range"}
WALKERS = {"list", "tuple", "dict", "sorted", "sum", "any", "all", "enumerate", "zip", "min", "max"}
NODES = (
    ast.Module, ast.Expr, ast.Constant, ast.ImportFrom, ast.alias, ast.FunctionDef, ast.arguments, ast.arg,
    ast.ClassDef, ast.Assign, ast.AugAssign, ast.If, ast.While, ast.For, ast.Return, ast.Break, ast.Continue, ast.Pass,
    ast.Raise, ast.Try, ast.ExceptHandler, ast.Name, ast.Attribute, ast.Subscript, ast.Slice, ast.Call, ast.keyword,
    ast.List, ast.Tuple, ast.Dict, ast.BinOp, ast.UnaryOp, ast.BoolOp, ast.Compare, ast.IfExp, ast.ListComp,
    ast.comprehension, ast.Lambda, ast.JoinedStr, ast.FormattedValue, ast.expr_context, ast.operator, ast.unaryop,
    ast.boolop, ast.cmpop,
)
FORBIDDEN_WORDS = re.compile(
    r"\b(type|typing|typing_extensions|enum|Enum|IntEnum|StrEnum|Flag|IntFlag|Generic|Protocol|ABC|ABCMeta|namedtuple"
    r"|NamedTuple|TypedDict|TYPE_CHECKING|abstractmethod)\b|dataclass|overload|contextmanager"
)
FORBIDDEN_NAMES = set("register mro elements open input version_info with_traceback add_note format format_map".split())


def files():
    return sorted(PACKAGE.glob("*.py"))


def parents_of(tree):
    return {child: node for node in ast.walk(tree) for child in ast.iter_child_nodes(node)}


def own_names(tree):
    """Names that the file itself binds, at its top or within its functions."""
    names = set()
    for node in ast.walk(tree):
        if isinstance(node, (ast.FunctionDef, ast.ClassDef)):
            names.add(node.name)
        elif isinstance(node, ast.arg):
            names.add(node.arg)
        elif isinstance(node, ast.alias):
            names.add(node.name)
        elif isinstance(node, ast.Name) and isinstance(node.ctx, ast.Store):
            names.add(node.id)
        elif isinstance(node, ast.ExceptHandler) and node.name:
            names.add(node.name)
    return names


def text_faults(text):
    if len(text.splitlines()) > 400:
        yield "L10 file"
    for number, line in enumerate(text.split("\n"), start=1):
        if len(line) > 120:
            yield f"L10 line {number}"
        if not all(" " <= sign <= "~" for sign in line):
            yield f"L14 line {number}"
        if FORBIDDEN_WORDS.search(line):
            yield f"L17 line {number}"


def top_faults(tree):
    bound = []
    for node in tree.body:
        if isinstance(node, (ast.FunctionDef, ast.ClassDef)):
            bound.append(node.name)
        elif isinstance(node, ast.ImportFrom):
            bound += [name.name for name in node.names]
            if node.level or not node.module.startswith("bandhouse."):
                yield f"L2 line {node.lineno}"
        elif isinstance(node, ast.Assign) and isinstance(node.targets[0], ast.Name):
            bound.append(node.targets[0].id)
            if any(isinstance(part, (ast.Name, ast.Call, ast.ListComp)) for part in ast.walk(node.value)):
                yield f"L3 line {node.lineno}"
        elif not (isinstance(node, ast.Expr) and isinstance(node.value, ast.Constant)):
            yield f"L3 line {node.lineno}"
    if len(bound) != len(set(bound)):
        yield "L15 a name twice at the top"


def def_faults(node):
    if node.decorator_list or node.returns or any(one.annotation for one in node.args.args):
        yield f"L4 line {node.lineno}"
    if node.args.vararg or node.args.kwarg or node.args.kwonlyargs or node.args.posonlyargs:
        yield f"L4 line {node.lineno}"
    if node.end_lineno - node.lineno >= 40:
        yield f"L10 line {node.lineno}"


def call_faults(node, names, above):
    if isinstance(node.func, ast.Name):
        if node.func.id in WALKED:
            walked = isinstance(above, (ast.For, ast.comprehension))
            walked = walked or isinstance(above, ast.Call) and isinstance(above.func, ast.Name) and above.func.id in WALKERS
            if not walked:
                yield f"L23 line {node.lineno}"
    elif isinstance(node.func, ast.Attribute):
        if node.func.attr not in METHODS and node.func.attr != "__init__":
            yield f"L25 line {node.lineno}"


def name_faults(node, names):
    if node.id in FORBIDDEN_NAMES or node.id.startswith("_"):
        yield f"L12 line {node.lineno}"
    if isinstance(node.ctx, ast.Load) and node.id not in names and node.id not in BUILT_IN:
        yield f"L8 line {node.lineno}: {node.id}"
    if isinstance(node.ctx, ast.Store) and hasattr(builtins, node.id):
        yield f"L15 line {node.lineno}: {node.id}"


def node_faults(node, names, above):
    if not isinstance(node, NODES):
        yield f"L6 or L7: {ast.dump(node)[:60]}"
    elif isinstance(node, ast.FunctionDef):
        yield from def_faults(node)
    elif isinstance(node, ast.Call):
        yield from call_faults(node, names, above)
    elif isinstance(node, ast.Name):
        yield from name_faults(node, names)
    elif isinstance(node, ast.arg) and hasattr(builtins, node.arg):
        yield f"L15 line {node.lineno}"
    elif isinstance(node, ast.Attribute) and (node.attr in FORBIDDEN_NAMES or node.attr.startswith("_")):
        if node.attr != "__init__":
            yield f"L17 line {node.lineno}"
    elif isinstance(node, (ast.For, ast.While)) and node.orelse:
        yield f"L6 line {node.lineno}"
    elif isinstance(node, ast.Assign) and (len(node.targets) > 1 or isinstance(node.targets[0], (ast.Tuple, ast.List))):
        yield f"L6 line {node.lineno}"
    elif isinstance(node, ast.ListComp) and (len(node.generators) > 1 or len(node.generators[0].ifs) > 1):
        yield f"L7 line {node.lineno}"
    elif isinstance(node, (ast.Div, ast.MatMult)):
        yield "L7 division"
    elif isinstance(node, ast.Constant) and isinstance(node.value, (float, bytes, complex)):
        yield f"L7 line {node.lineno}"
    elif isinstance(node, ast.Constant) and isinstance(node.value, str) and "%" in node.value:
        yield f"L27 line {node.lineno}"
    elif isinstance(node, ast.FormattedValue) and not isinstance(node.value, ast.Name):
        yield f"L7 line {node.lineno}"


def shadow_faults(tree):
    """Parameters and locals that are called like a class or an import of their file."""
    taken = {name.name for node in tree.body if isinstance(node, ast.ImportFrom) for name in node.names}
    taken |= {node.name for node in tree.body if isinstance(node, ast.ClassDef)}
    for node in ast.walk(tree):
        if isinstance(node, ast.arg) and node.arg in taken:
            yield f"L15 line {node.lineno}"
        if isinstance(node, ast.Name) and isinstance(node.ctx, ast.Store) and node.id in taken:
            yield f"L15 line {node.lineno}"


def faults(text):
    tree = ast.parse(text)
    names = own_names(tree)
    above = parents_of(tree)
    found = list(text_faults(text)) + list(top_faults(tree)) + list(shadow_faults(tree))
    for node in ast.walk(tree):
        found += list(node_faults(node, names, above.get(node)))
    return found


class Language(unittest.TestCase):
    def test_every_file_keeps_to_the_rules(self):
        self.assertTrue(files())
        for path in files():
            self.assertEqual(faults(path.read_text(encoding="utf-8")), [], path.name)

    def test_nothing_else_lies_in_the_package(self):
        others = [path.name for path in PACKAGE.iterdir() if path.suffix != ".py" and path.name != "__pycache__"]
        self.assertEqual(others, [])
        for path in files():
            self.assertRegex(path.name, r"^[a-z][a-z0-9_]*\.py$|^__init__\.py$")
            self.assertFalse(path.stem != "__init__" and hasattr(builtins, path.stem), path.name)

    def test_no_two_files_draw_from_one_another(self):
        drawn = {}
        for path in files():
            tree = ast.parse(path.read_text(encoding="utf-8"))
            drawn[path.stem] = {node.module.split(".")[1] for node in tree.body if isinstance(node, ast.ImportFrom)}
        while drawn:
            free = [name for name in drawn if not drawn[name] & set(drawn)]
            self.assertTrue(free, drawn)
            for name in free:
                drawn.pop(name)

    def test_the_checks_find_faults(self):
        wrong = (
            "import sys\n", "x = 1 / 2\n", "x = 1\nx = 2\n", "x = {1, 2}\n", "def f(*a):\n    return a\n",
            "def f():\n    with a:\n        pass\n", "def f(x):\n    return [a for b in x for a in b]\n",
            "def f():\n    return open(1)\n", "def f(x):\n    y = range(x)\n    return y\n",
            "def f(x):\n    return x.sort()\n", "# type\n", "x = 'a" + "b" * 120 + "'\n", "def f(min):\n    return min\n",
            "from bandhouse.plan import Room\n\n\ndef f(Room):\n    return Room\n", "def f(x):\n    a, b = x\n",
            "def f():\n" + "    pass\n" * 40, "def f():\n    _x = 1\n", "def f(x):\n    return f'{x.y}'\n",
            "x = '\xe4'\n", "def f():\n    return chr(1)\n", "def f(x):\n    assert x\n",
        )
        for text in wrong:
            self.assertNotEqual(faults(text), [], text)


if __name__ == "__main__":
    unittest.main()
