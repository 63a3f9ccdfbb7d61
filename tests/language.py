"""Looks through a file of the package for what ../shared/LANGUAGE.md rules out.

Not all of its rules can be seen from here: only those that a walk over the
written file shows without doubt.
"""

import ast
import builtins
import re

STATEMENTS = (ast.FunctionDef, ast.ClassDef, ast.Assign, ast.AugAssign, ast.If, ast.While, ast.For,
              ast.Return, ast.Break, ast.Continue, ast.Pass, ast.Raise, ast.Try, ast.Expr, ast.ImportFrom)
EXPRESSIONS = (ast.Constant, ast.List, ast.Tuple, ast.Dict, ast.Set, ast.BinOp, ast.UnaryOp, ast.BoolOp,
               ast.Compare, ast.IfExp, ast.Call, ast.Attribute, ast.Subscript, ast.Slice, ast.ListComp,
               ast.JoinedStr, ast.FormattedValue, ast.Name, ast.Lambda)
FREE = ("len range enumerate zip min max sum abs sorted reversed int str bool list tuple dict set frozenset "
        "isinstance ord repr any all divmod Exception ValueError TypeError KeyError IndexError LookupError "
        "ZeroDivisionError ArithmeticError OverflowError RuntimeError NotImplementedError AttributeError "
        "StopIteration").split()
METHODS = ("append clear copy count endswith extend find get index insert isalnum isalpha isdigit islower "
           "isspace isupper items join keys ljust lower lstrip partition pop remove replace reverse rfind "
           "rjust rpartition rsplit rstrip setdefault split splitlines startswith strip update upper values "
           "zfill bit_length").split()
DOUBLE = ("__init__", "__eq__", "__repr__", "__str__", "__len__")
NOT_VALUES = ("items keys values pop update append clear extend insert remove reverse setdefault sort args "
              "encode format").split()
NO_NAMES = ("register mro elements open input version_info with_traceback add_note attrgetter breakpoint "
            "builtins compile copyright credits delattr dir eval exec exit gc getattr globals hasattr help id "
            "importlib license locals methodcaller os quit setattr super vars sys format format_map").split()
NO_WORDS = ("type typing typing_extensions enum Enum IntEnum StrEnum Flag IntFlag Generic Protocol ABC ABCMeta "
            "namedtuple NamedTuple TypedDict TYPE_CHECKING abstractmethod").split()
NO_BITS = ("dataclass", "overload", "contextmanager")
WALKS = ("zip", "enumerate", "reversed", "range")
WALK_METHODS = ("items", "keys", "values")
WALKERS = ("list", "tuple", "dict", "sorted", "sum", "any", "all", "enumerate", "zip", "min", "max", "join")
CHANGES = ("append", "clear", "extend", "insert", "pop", "remove", "reverse", "setdefault", "update")


def faults(text, package="standstill"):
    """The faults of a file's text, as texts with rule and line."""
    tree = ast.parse(text)
    found = signs(text) + top(tree) + imports(tree, package) + locals_of(tree) + walks(tree)
    methods = methods_of(tree)
    for node in ast.walk(tree):
        found += kinds(node) + names(node, node in methods) + shapes(node)
    return found


def methods_of(tree):
    found = []
    for node in ast.walk(tree):
        if isinstance(node, ast.ClassDef):
            found += [one for one in node.body if isinstance(one, ast.FunctionDef)]
    return found


def signs(text):
    found = []
    rows = text.split("\n")
    if len(rows) > 401:
        found.append("L10: the file is too long")
    for number, row in enumerate(rows, start=1):
        if len(row) > 120:
            found.append(f"L10 line {number}: too long")
        if re.search(r"[^ -~]", row):
            found.append(f"L14 line {number}: a sign")
        for word in re.findall(r"\w+", row):
            if word in NO_WORDS or any(bit in word for bit in NO_BITS):
                found.append(f"L17 line {number}: {word}")
    return found


def top(tree):
    found = []
    bound = []
    for place, node in enumerate(tree.body):
        if isinstance(node, (ast.FunctionDef, ast.ClassDef)):
            bound.append(node.name)
        elif isinstance(node, ast.Assign):
            bound += [target.id for target in node.targets if isinstance(target, ast.Name)]
        elif isinstance(node, ast.ImportFrom):
            bound += [alias.asname or alias.name for alias in node.names]
        elif not (place == 0 and is_text(node)):
            found.append(f"L3 line {node.lineno}: at the top")
    for name in sorted(set(bound)):
        if bound.count(name) > 1:
            found.append(f"L15: {name} is bound twice")
    return found


def imports(tree, package):
    found = []
    for node in ast.walk(tree):
        if isinstance(node, ast.Import):
            found.append(f"L2 line {node.lineno}: an import")
        if isinstance(node, ast.ImportFrom):
            inner = node.level == 0 and node.module.startswith(package + ".")
            if node not in tree.body or not inner or any(alias.name == "*" for alias in node.names):
                found.append(f"L2 line {node.lineno}: an import")
    return found


def drawn_from(text, package="standstill"):
    """The package's files that a file draws from."""
    nodes = [node for node in ast.walk(ast.parse(text)) if isinstance(node, ast.ImportFrom)]
    return sorted({node.module.removeprefix(package + ".") for node in nodes})


def methods_and_values(text):
    """The names of the methods of a file's classes, and those of its objects' values."""
    tree = ast.parse(text)
    methods = {node.name for node in methods_of(tree)}
    values = {node.attr for node in ast.walk(tree)
              if isinstance(node, ast.Attribute) and isinstance(node.ctx, ast.Store)}
    return methods, values


def locals_of(tree):
    """Parameters and locals that are called like a class or an import of the file."""
    taken = []
    for node in tree.body:
        if isinstance(node, ast.ClassDef):
            taken.append(node.name)
        if isinstance(node, ast.ImportFrom):
            taken += [alias.asname or alias.name for alias in node.names]
    found = []
    for node in ast.walk(tree):
        if isinstance(node, (ast.arg, ast.Name)):
            found += [f"L15 line {node.lineno}: {name}" for name in bound_by(node) if name in taken]
    return found


def walks(tree):
    """What is walked otherwise than on the spot, kept sets, and loops that change what they walk."""
    above = {}
    for node in ast.walk(tree):
        for inner in ast.iter_child_nodes(node):
            above[inner] = node
    found = []
    for node in ast.walk(tree):
        if isinstance(node, ast.Call) and called(node) in WALKS + WALK_METHODS and not is_walked(node, above[node]):
            found.append(f"L23 line {node.lineno}: {called(node)} is kept")
        if isinstance(node, ast.For):
            found += changes_in(node)
        if isinstance(node, ast.Call) and called(node) in ("set", "frozenset") and not is_asked(node, above):
            found.append(f"L24 line {node.lineno}: a set is kept")
    return found


def called(node):
    return node.func.attr if isinstance(node.func, ast.Attribute) else getattr(node.func, "id", None)


def is_walked(node, outer):
    if isinstance(outer, (ast.For, ast.comprehension)):
        return outer.iter is node
    return isinstance(outer, ast.Call) and called(outer) in WALKERS and outer.args[:1] == [node]


def is_asked(node, above):
    outer = above[node]
    while isinstance(outer, ast.BinOp):
        outer = above[outer]
    if isinstance(outer, ast.Compare):
        return all(isinstance(sort, (ast.In, ast.NotIn, ast.Eq, ast.NotEq)) for sort in outer.ops)
    return isinstance(outer, ast.Call) and called(outer) in ("sorted", "len") and not outer.keywords


def changes_in(loop):
    """The changes, in a loop, of what it walks."""
    walked = [loop.iter]
    if isinstance(loop.iter, ast.Call) and called(loop.iter) in WALKS:
        walked = loop.iter.args
    elif isinstance(loop.iter, ast.Call) and called(loop.iter) in WALK_METHODS:
        walked = [loop.iter.func.value]
    shown = [ast.unparse(one) for one in walked]
    found = []
    for node in ast.walk(loop):
        if isinstance(node, ast.Subscript) and isinstance(node.ctx, ast.Store) and ast.unparse(node.value) in shown:
            found.append(f"L23 line {node.lineno}: changed in its loop")
        if isinstance(node, ast.Call) and isinstance(node.func, ast.Attribute) and node.func.attr in CHANGES:
            if ast.unparse(node.func.value) in shown:
                found.append(f"L23 line {node.lineno}: changed in its loop")
    return found


def kinds(node):
    """Statements and expressions outside L6 and L7, with a few of L4 and L5."""
    line = getattr(node, "lineno", 0)
    found = []
    if isinstance(node, ast.stmt) and not isinstance(node, STATEMENTS):
        found.append(f"L6 line {line}: {type(node).__name__}")
    if isinstance(node, ast.expr) and not isinstance(node, EXPRESSIONS):
        found.append(f"L7 line {line}: {type(node).__name__}")
    if isinstance(node, ast.Constant) and isinstance(node.value, (float, complex, bytes)):
        found.append(f"L7 line {line}: a value")
    if isinstance(node, (ast.Div, ast.MatMult)):
        found.append("L7: an operator")
    if isinstance(node, ast.Expr) and not (is_text(node) or isinstance(node.value, ast.Call)):
        found.append(f"L6 line {line}: a value by itself")
    if isinstance(node, ast.Assign) and len(node.targets) > 1:
        found.append(f"L6 line {line}: several targets")
    if isinstance(node, (ast.For, ast.While)) and node.orelse:
        found.append(f"L6 line {line}: else behind a loop")
    if isinstance(node, ast.Try) and (node.finalbody or any(one.type is None for one in node.handlers)):
        found.append(f"L6 line {line}: a try")
    if isinstance(node, ast.ListComp) and (len(node.generators) > 1 or len(node.generators[0].ifs) > 1):
        found.append(f"L7 line {line}: a comprehension")
    return found


def names(node, is_method):
    found = []
    line = getattr(node, "lineno", 0)
    if isinstance(node, ast.Name) and isinstance(node.ctx, ast.Load):
        if hasattr(builtins, node.id) and node.id not in FREE:
            found.append(f"L8 line {line}: {node.id}")
    for name in bound_by(node):
        if hasattr(builtins, name) and not is_method:
            found.append(f"L15 line {line}: {name}")
        if name.startswith("_") and name not in DOUBLE:
            found.append(f"L12 line {line}: {name}")
        if name in NO_NAMES:
            found.append(f"L17 line {line}: {name}")
    if isinstance(node, ast.Attribute):
        if node.attr in NO_NAMES or (node.attr.startswith("_") and node.attr != "__init__"):
            found.append(f"L17 line {line}: {node.attr}")
        if isinstance(node.ctx, ast.Store) and node.attr in NOT_VALUES:
            found.append(f"L26 line {line}: {node.attr}")
    return found


def bound_by(node):
    if isinstance(node, (ast.FunctionDef, ast.ClassDef)):
        return [node.name]
    if isinstance(node, ast.arg):
        return [node.arg]
    if isinstance(node, ast.Name) and isinstance(node.ctx, ast.Store):
        return [node.id]
    return []


def shapes(node):
    """The forms of functions, classes, `is` and methods."""
    line = getattr(node, "lineno", 0)
    found = []
    if isinstance(node, ast.FunctionDef):
        asked = node.args
        if asked.vararg or asked.kwarg or asked.kwonlyargs or asked.posonlyargs or node.decorator_list:
            found.append(f"L4 line {line}: {node.name}")
        if node.returns or any(one.annotation for one in asked.args):
            found.append(f"L21 line {line}: {node.name}")
        if node.end_lineno - node.lineno + 1 > 40:
            found.append(f"L10 line {line}: {node.name} is too long")
    if isinstance(node, ast.ClassDef):
        inner = [one for one in node.body if not isinstance(one, (ast.FunctionDef, ast.Pass)) and not is_text(one)]
        if inner or len(node.bases) > 1 or node.keywords or node.decorator_list:
            found.append(f"L5 line {line}: {node.name}")
    if isinstance(node, ast.Compare) and not is_beside_plain(node):
        found.append(f"L20 line {line}: is")
    if isinstance(node, ast.Call) and isinstance(node.func, ast.Attribute):
        name = node.func.attr
        if name not in METHODS and any(hasattr(kind, name) for kind in (str, int, list, dict, set, tuple)):
            if name not in ("add", "discard", "__init__"):
                found.append(f"L25 line {line}: {name}")
    return found


def is_text(node):
    return isinstance(node, ast.Expr) and isinstance(node.value, ast.Constant) and isinstance(node.value.value, str)


def is_beside_plain(node):
    for sort, right in zip(node.ops, node.comparators):
        if isinstance(sort, (ast.Is, ast.IsNot)):
            if not (isinstance(right, ast.Constant) and any(right.value is one for one in (None, True, False))):
                return False
    return True
