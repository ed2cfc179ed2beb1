"""Looks through the package's files for code outside the small part of Python it keeps to.

Not every rule of LANGUAGE.md can be seen here; those that a walk through the syntax tree shows are.
"""

import ast
import builtins
import re

OWN_NAMES = set(
    "len range enumerate zip min max sum abs sorted reversed int str bool list tuple dict set frozenset isinstance ord"
    " repr any all divmod Exception ValueError TypeError KeyError IndexError LookupError ZeroDivisionError"
    " ArithmeticError OverflowError RuntimeError NotImplementedError AttributeError StopIteration".split()
)
OWN_METHODS = set(
    "append clear copy count endswith extend find get index insert isalnum isalpha isdigit islower isspace isupper"
    " items join keys ljust lower lstrip partition pop remove replace reverse rfind rjust rpartition rsplit rstrip"
    " setdefault split splitlines startswith strip update upper values zfill bit_length".split()
)
PYTHON_METHODS = {
    name for kind in (str, int, list, tuple, dict, set, frozenset, bytes) for name in dir(kind)
}
UNDERSCORED = {"__init__", "__eq__", "__repr__", "__str__", "__len__"}
WORDS_OUT = re.compile(
    r"\b(type|typing|typing_extensions|enum|Enum|IntEnum|StrEnum|Flag|IntFlag|Generic|Protocol|ABC|ABCMeta|namedtuple"
    r"|NamedTuple|TypedDict|TYPE_CHECKING|abstractmethod)\b|dataclass|overload|contextmanager"
)
NAMES_OUT = set("register mro elements open input version_info with_traceback add_note format format_map chr".split())
ALLOWED = (
    ast.Module, ast.ImportFrom, ast.alias, ast.FunctionDef, ast.Lambda, ast.arguments, ast.arg, ast.ClassDef,
    ast.Assign, ast.AugAssign, ast.If, ast.While, ast.For, ast.Return, ast.Break, ast.Continue, ast.Pass, ast.Raise,
    ast.Try, ast.ExceptHandler, ast.Expr, ast.Constant, ast.List, ast.Tuple, ast.Dict, ast.Set, ast.BinOp, ast.UnaryOp,
    ast.BoolOp, ast.Compare, ast.IfExp, ast.Call, ast.keyword, ast.Attribute, ast.Subscript, ast.Slice, ast.ListComp,
    ast.comprehension, ast.JoinedStr, ast.FormattedValue, ast.Name, ast.expr_context, ast.operator, ast.unaryop,
    ast.boolop, ast.cmpop,
)
NODES_OUT = (ast.Div, ast.MatMult)


def text_faults(text):
    for number, line in enumerate(text.split("\n"), start=1):
        if len(line) > 120:
            yield ("L10", number)
        if any(not " " <= sign <= "~" for sign in line):
            yield ("L14", number)
        if WORDS_OUT.search(line):
            yield ("L17", number)
    if text.count("\n") > 400:
        yield ("L10", 400)


def top_faults(tree):
    for place, node in enumerate(tree.body):
        docstring = place == 0 and isinstance(node, ast.Expr) and isinstance(node.value, ast.Constant)
        if not docstring and not isinstance(node, (ast.ImportFrom, ast.FunctionDef, ast.ClassDef, ast.Assign)):
            yield ("L3", node.lineno)
    bound = []
    for node in tree.body:
        if isinstance(node, (ast.FunctionDef, ast.ClassDef)):
            bound.append(node.name)
        elif isinstance(node, ast.Assign):
            bound.extend(target.id for target in node.targets if isinstance(target, ast.Name))
        elif isinstance(node, ast.ImportFrom):
            bound.extend(alias.name for alias in node.names)
    if len(bound) != len(set(bound)):
        yield ("L15", 1)


def name_faults(name, line):
    if name.startswith("_") and name not in UNDERSCORED:
        yield ("L12", line)
    if name in NAMES_OUT:
        yield ("L17", line)


def def_faults(node):
    if node.end_lineno - node.lineno + 1 > 40:
        yield ("L10", node.lineno)
    given = node.args
    if given.vararg or given.kwarg or given.kwonlyargs or given.posonlyargs or node.decorator_list:
        yield ("L4", node.lineno)
    yield from name_faults(node.name, node.lineno)


def class_faults(node):
    if len(node.bases) > 1 or node.keywords or node.decorator_list:
        yield ("L5", node.lineno)
    for inner in node.body:
        if not isinstance(inner, (ast.FunctionDef, ast.Pass)):
            yield ("L5", inner.lineno)


def expression_faults(node):
    if isinstance(node, ast.Constant) and isinstance(node.value, (float, bytes, complex)):
        yield ("L7", node.lineno)
    if isinstance(node, ast.Compare):
        for operator, beside in zip(node.ops, node.comparators):
            plain = isinstance(beside, ast.Constant) and (beside.value is None or isinstance(beside.value, bool))
            if isinstance(operator, (ast.Is, ast.IsNot)) and not plain:
                yield ("L20", node.lineno)
    if isinstance(node, ast.ListComp) and (len(node.generators) > 1 or len(node.generators[0].ifs) > 1):
        yield ("L7", node.lineno)
    if isinstance(node, ast.Attribute):
        yield from name_faults(node.attr, node.lineno)
        if node.attr in PYTHON_METHODS - OWN_METHODS - UNDERSCORED:
            yield ("L25", node.lineno)


def statement_faults(node):
    if isinstance(node, ast.Assign) and (len(node.targets) > 1 or isinstance(node.targets[0], (ast.Tuple, ast.List))):
        yield ("L6", node.lineno)
    if isinstance(node, (ast.While, ast.For)) and node.orelse:
        yield ("L6", node.lineno)
    if isinstance(node, ast.Try) and node.finalbody:
        yield ("L6", node.lineno)
    if isinstance(node, ast.ImportFrom) and (node.level or not (node.module or "").startswith("surebook.")):
        yield ("L2", node.lineno)


def builtin_faults(node):
    if isinstance(node, ast.Name):
        stored = isinstance(node.ctx, ast.Store)
        if node.id in dir(builtins) and (stored or node.id not in OWN_NAMES):
            yield ("L15" if stored else "L8", node.lineno)
        yield from name_faults(node.id, node.lineno)
    if isinstance(node, ast.arg):
        if node.arg in dir(builtins):
            yield ("L15", node.lineno)
        yield from name_faults(node.arg, node.lineno)


def node_faults(node):
    if isinstance(node, NODES_OUT) or not isinstance(node, ALLOWED):
        yield ("L6", getattr(node, "lineno", 0))
    if isinstance(node, ast.FunctionDef):
        yield from def_faults(node)
    if isinstance(node, ast.ClassDef):
        yield from class_faults(node)
    yield from expression_faults(node)
    yield from statement_faults(node)
    yield from builtin_faults(node)


def shadow_faults(tree):
    """Parameters and locals that are called like a class or an import of their file."""
    taken = {node.name for node in tree.body if isinstance(node, ast.ClassDef)}
    for node in tree.body:
        if isinstance(node, ast.ImportFrom):
            taken.update(alias.name for alias in node.names)
    for node in ast.walk(tree):
        if isinstance(node, ast.arg) and node.arg in taken:
            yield ("L15", node.lineno)
        if isinstance(node, ast.Name) and isinstance(node.ctx, ast.Store) and node.id in taken:
            yield ("L15", node.lineno)


def faults(text):
    """A list of (rule, line) for a file's text, empty where nothing is seen."""
    tree = ast.parse(text)
    found = list(text_faults(text)) + list(top_faults(tree)) + list(shadow_faults(tree))
    for node in ast.walk(tree):
        found.extend(node_faults(node))
    return found


def drawn_from(text):
    """The package's modules that a file's text imports from."""
    return [node.module for node in ast.walk(ast.parse(text)) if isinstance(node, ast.ImportFrom)]


def methods(text):
    """The names of the methods that a file's classes have."""
    classes = [node for node in ast.parse(text).body if isinstance(node, ast.ClassDef)]
    return {inner.name for node in classes for inner in node.body if isinstance(inner, ast.FunctionDef)}


def values(text):
    """The names of the values that are given to objects in a file."""
    return {
        node.attr for node in ast.walk(ast.parse(text))
        if isinstance(node, ast.Attribute) and isinstance(node.ctx, ast.Store)
    }
