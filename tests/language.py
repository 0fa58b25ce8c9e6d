"""Looks for what LANGUAGE.md rules out, as far as a walk through the code can see it."""

import ast
import builtins
import re

NODES = frozenset((
    "Module Expr Assign AugAssign AnnAssign If While For Return Break Continue Pass Raise Try "
    "ExceptHandler FunctionDef ClassDef ImportFrom alias arguments arg Lambda keyword Constant "
    "List Tuple Dict Set BinOp UnaryOp BoolOp Compare IfExp Call Attribute Subscript Slice Name "
    "ListComp comprehension JoinedStr FormattedValue Load Store Add Sub Mult FloorDiv Mod Pow "
    "BitAnd BitOr BitXor LShift RShift Invert Not USub UAdd And Or Eq NotEq Lt LtE Gt GtE Is "
    "IsNot In NotIn"
).split())
ERRORS = frozenset((
    "Exception ValueError TypeError KeyError IndexError LookupError ZeroDivisionError "
    "ArithmeticError OverflowError RuntimeError NotImplementedError AttributeError StopIteration"
).split())
# chr is left out: L27 takes back what L8 lists.
BUILTINS = ERRORS | frozenset((
    "len range enumerate zip min max sum abs sorted reversed int str bool list tuple dict set "
    "frozenset isinstance ord repr any all divmod"
).split())
METHODS = frozenset((
    "append clear copy count endswith extend find get index insert isalnum isalpha isdigit "
    "islower isspace isupper items join keys ljust lower lstrip partition pop remove replace "
    "reverse rfind rjust rpartition rsplit rstrip setdefault split splitlines startswith strip "
    "update upper values zfill bit_length"
).split())
DUNDERS = frozenset("__init__ __eq__ __repr__ __str__ __len__".split())
# L26: these count as changes.
CHANGES = frozenset(
    "append clear extend insert pop remove reverse setdefault update".split()
)
KEYWORDS = {
    "sorted": ("key", "reverse"), "min": ("key", "default"), "max": ("key", "default"),
    "sum": ("start",), "enumerate": ("start",), "zip": ("strict",),
}
WALKED = frozenset("zip enumerate reversed range".split())
WALKERS = frozenset("list tuple dict sorted sum any all enumerate zip min max".split())
# L26: a value of an object may have a few names of Python's own methods, and no others of them.
VALUES = frozenset("count index title find get join lower upper split strip copy add".split())
TAKEN_VALUES = frozenset(
    name for kind in (str, int, list, tuple, dict, set, bytes) for name in dir(kind)
) - VALUES | frozenset(("args",))
UNUSED_NAMES = frozenset("register mro elements open input version_info".split())
WORDS = re.compile(
    r"\b(type|typing|typing_extensions|enum|Enum|IntEnum|StrEnum|Flag|IntFlag|Generic|Protocol"
    r"|ABC|ABCMeta|namedtuple|NamedTuple|TypedDict|TYPE_CHECKING|abstractmethod)\b"
    r"|dataclass|overload|contextmanager"
)
PLAIN_NAME = re.compile(r"[A-Za-z][A-Za-z0-9_]*\Z")
FILE_NAME = re.compile(r"(__init__|__main__|[a-z][a-z0-9_]*)\.py\Z")


def faults(package, source, methods=frozenset()):
    """Pairs of a rule and a row for the text of one file; `methods` are the package's own."""
    tree = ast.parse(source)
    return sorted(set(
        size_faults(source, tree)
        + sign_faults(source)
        + top_faults(package, tree)
        + name_faults(tree, methods)
        + node_faults(tree)
        + walk_faults(tree)
        + loop_faults(tree)
        + keyword_faults(tree)
        + error_faults(tree)
        + class_faults(tree)
    ))


def size_faults(source, tree):
    rows = source.split("\n")
    found = [("L10", at) for at, row in enumerate(rows, 1) if len(row) > 120]
    if len(rows) > 401:
        found.append(("L10", 401))
    for node in ast.walk(tree):
        if isinstance(node, ast.FunctionDef) and node.end_lineno - node.lineno >= 40:
            found.append(("L10", node.lineno))
    return found


def sign_faults(source):
    found = []
    for at, row in enumerate(source.split("\n"), 1):
        if not all(" " <= sign <= "~" for sign in row):
            found.append(("L14", at))
        if WORDS.search(row):
            found.append(("L17", at))
    return found


def is_plain_value(node):
    if isinstance(node, ast.Constant):
        return True
    if isinstance(node, ast.UnaryOp):
        return isinstance(node.op, ast.USub) and is_plain_value(node.operand)
    if isinstance(node, (ast.List, ast.Tuple)):
        return all(is_plain_value(part) for part in node.elts)
    if isinstance(node, ast.Dict):
        return all(is_plain_value(part) for part in node.keys + node.values)
    return isinstance(node, ast.Name)


def top_faults(package, tree):
    found = []
    bound = []
    for place, node in enumerate(tree.body):
        if isinstance(node, ast.Expr):
            if place != 0 or not isinstance(node.value, ast.Constant):
                found.append(("L3", node.lineno))
        elif isinstance(node, ast.ImportFrom):
            if not (node.level == 0 and node.module.startswith(package + ".")):
                found.append(("L2", node.lineno))
            bound.extend((alias.asname or alias.name, node.lineno) for alias in node.names)
        elif isinstance(node, (ast.FunctionDef, ast.ClassDef)):
            bound.append((node.name, node.lineno))
        elif isinstance(node, ast.Assign) and is_plain_value(node.value):
            bound.extend((target.id, node.lineno) for target in node.targets)
        else:
            found.append(("L3", node.lineno))
    names = [name for name, at in bound]
    found.extend(("L15", at) for name, at in bound if names.count(name) > 1)
    inner = [node for node in ast.walk(tree) if node not in tree.body]
    found.extend(("L2", node.lineno) for node in inner if isinstance(node, ast.ImportFrom))
    found.extend(("L15", node.lineno) for node in inner if isinstance(node, ast.ClassDef))
    return found


def bound_names(tree):
    """Each name that the file binds, with the row."""
    for node in ast.walk(tree):
        if isinstance(node, (ast.FunctionDef, ast.ClassDef)):
            yield node.name, node.lineno
        elif isinstance(node, ast.arg):
            yield node.arg, node.lineno
        elif isinstance(node, ast.Name) and isinstance(node.ctx, ast.Store):
            yield node.id, node.lineno
        elif isinstance(node, ast.alias):
            yield node.asname or node.name, node.lineno
        elif isinstance(node, ast.ExceptHandler) and node.name:
            yield node.name, node.lineno


def drawn_and_classes(tree):
    for node in tree.body:
        if isinstance(node, ast.ImportFrom):
            for alias in node.names:
                yield alias.asname or alias.name
        elif isinstance(node, ast.ClassDef):
            yield node.name


def name_faults(tree, methods):
    found = []
    known = set(BUILTINS)
    for name, at in bound_names(tree):
        known.add(name)
        if name not in DUNDERS and not PLAIN_NAME.match(name):
            found.append(("L12", at))
        if name in UNUSED_NAMES:
            found.append(("L17", at))
    reserved = set(dir(builtins)) | set(drawn_and_classes(tree))
    for node in ast.walk(tree):
        if isinstance(node, ast.arg) and node.arg in reserved:
            found.append(("L15", node.lineno))
        elif isinstance(node, ast.Name):
            if isinstance(node.ctx, ast.Store) and node.id in reserved:
                found.append(("L15", node.lineno))
            elif isinstance(node.ctx, ast.Load) and node.id not in known:
                found.append(("L8", node.lineno))
        elif isinstance(node, ast.Attribute):
            if node.attr in UNUSED_NAMES:
                found.append(("L17", node.lineno))
            elif node.attr not in METHODS | DUNDERS | methods:
                found.append(("L25", node.lineno))
    return found


def node_faults(tree):
    found = []
    docstring = tree.body[0] if tree.body else None
    for node in ast.walk(tree):
        at = getattr(node, "lineno", 0)
        if type(node).__name__ not in NODES:
            found.append(("L6/L7", at))
        elif isinstance(node, ast.Expr) and node != docstring:
            if not isinstance(node.value, ast.Call):
                found.append(("L6", at))
        elif isinstance(node, ast.Assign):
            if len(node.targets) != 1 or isinstance(node.targets[0], (ast.Tuple, ast.List)):
                found.append(("L6", at))
        elif isinstance(node, (ast.For, ast.While)) and node.orelse:
            found.append(("L6", at))
        elif isinstance(node, ast.Try) and node.finalbody:
            found.append(("L6", at))
        elif isinstance(node, ast.Constant):
            found.extend(constant_faults(node))
        elif isinstance(node, ast.BinOp) and isinstance(node.op, ast.Pow):
            if not (isinstance(node.right, ast.Constant) and 0 <= node.right.value <= 64):
                found.append(("L27", at))
        elif isinstance(node, ast.Compare):
            found.extend(compare_faults(node))
        elif isinstance(node, ast.ListComp):
            if len(node.generators) != 1 or len(node.generators[0].ifs) > 1:
                found.append(("L7", at))
        elif isinstance(node, (ast.FunctionDef, ast.ClassDef)):
            found.extend(def_faults(node))
    return found


def constant_faults(node):
    if isinstance(node.value, (float, complex, bytes)) or node.value is ...:
        return [("L7", node.lineno)]
    if isinstance(node.value, str) and "%" in node.value:
        return [("L27", node.lineno)]
    return []


def is_none_or_bool(node):
    if not isinstance(node, ast.Constant):
        return False
    return node.value is None or isinstance(node.value, bool)


def compare_faults(node):
    sides = [node.left] + node.comparators
    for place, op in enumerate(node.ops):
        if isinstance(op, (ast.Is, ast.IsNot)):
            pair = sides[place:place + 2]
            if not any(is_none_or_bool(side) for side in pair):
                return [("L20", node.lineno)]
    return []


def def_faults(node):
    found = []
    if node.decorator_list:
        found.append(("L4/L5", node.lineno))
    if isinstance(node, ast.ClassDef):
        if len(node.bases) > 1 or node.keywords:
            found.append(("L5", node.lineno))
        if not all(isinstance(part, (ast.FunctionDef, ast.Pass)) for part in node.body):
            found.append(("L5", node.lineno))
    else:
        spec = node.args
        if spec.vararg or spec.kwarg or spec.kwonlyargs or spec.posonlyargs:
            found.append(("L4", node.lineno))
    return found


def walk_faults(tree):
    """L23 and L24: what is walked on the spot alone, and sets that are kept or walked."""
    allowed = set()
    for node in ast.walk(tree):
        if isinstance(node, (ast.For, ast.comprehension)):
            allowed.add(node.iter)
        elif isinstance(node, ast.Call) and node.args:
            if isinstance(node.func, ast.Name) and node.func.id in WALKERS:
                allowed.add(node.args[0])
                if node.func.id == "zip":
                    allowed.update(node.args)
            elif isinstance(node.func, ast.Attribute) and node.func.attr == "join":
                allowed.add(node.args[0])
    found = []
    for node in ast.walk(tree):
        if isinstance(node, ast.Call) and isinstance(node.func, ast.Name):
            if node.func.id in WALKED and node not in allowed:
                found.append(("L23", node.lineno))
    return found + set_faults(tree)


def is_set(node):
    if isinstance(node, ast.BinOp):
        return is_set(node.left) or is_set(node.right)
    if isinstance(node, ast.Call) and isinstance(node.func, ast.Name):
        return node.func.id in ("set", "frozenset")
    return isinstance(node, ast.Set)


def set_faults(tree):
    """L24: a set stands beside a comparison, or straight within sorted or len, and nowhere else."""
    allowed = set()
    for node in ast.walk(tree):
        if isinstance(node, ast.Compare):
            allowed.update([node.left] + node.comparators)
        elif isinstance(node, ast.BinOp) and is_set(node):
            allowed.update((node.left, node.right))
        elif isinstance(node, ast.Call) and isinstance(node.func, ast.Name):
            if node.func.id in ("sorted", "len") and not node.keywords:
                allowed.update(node.args)
    return [
        ("L24", node.lineno) for node in ast.walk(tree)
        if isinstance(node, ast.expr) and is_set(node) and node not in allowed
    ]


def walked_by(node):
    """What a loop walks, itself or through enumerate, zip, reversed, items and their like."""
    if isinstance(node, ast.Call) and isinstance(node.func, ast.Name):
        if node.func.id in WALKED:
            return [part for arg in node.args for part in walked_by(arg)]
    if isinstance(node, ast.Call) and isinstance(node.func, ast.Attribute):
        if node.func.attr in ("items", "keys", "values"):
            return walked_by(node.func.value)
    if isinstance(node, (ast.Name, ast.Attribute, ast.Subscript)):
        return [as_read(node)]
    return []


def as_read(node):
    return ast.dump(node).replace("Store()", "Load()")


def changed_in(node):
    """What is changed there: by an index that is given a value, or by a method that changes."""
    for part in ast.walk(node):
        if isinstance(part, ast.Subscript) and isinstance(part.ctx, ast.Store):
            yield as_read(part.value), part.lineno
        elif isinstance(part, ast.Call) and isinstance(part.func, ast.Attribute):
            if part.func.attr in CHANGES:
                yield as_read(part.func.value), part.lineno


def loop_faults(tree):
    """L23: what a loop walks is not changed in it."""
    found = []
    for node in ast.walk(tree):
        if isinstance(node, ast.For):
            walked = walked_by(node.iter)
            for part in node.body:
                found.extend(("L23", at) for what, at in changed_in(part) if what in walked)
    return found


def keyword_faults(tree):
    """L22: keywords at Python's own names and methods."""
    found = []
    for node in ast.walk(tree):
        if isinstance(node, ast.Call) and node.keywords:
            names = [keyword.arg for keyword in node.keywords]
            allowed = None
            if isinstance(node.func, ast.Attribute) and node.func.attr in METHODS:
                allowed = ()
            elif isinstance(node.func, ast.Name) and node.func.id in BUILTINS:
                allowed = KEYWORDS.get(node.func.id, ())
            if allowed is not None and not set(names) <= set(allowed):
                found.append(("L22", node.lineno))
    return found


def error_faults(tree):
    """L19: errors that are taken by name, and raised on the spot."""
    found = []
    for node in ast.walk(tree):
        if isinstance(node, ast.ExceptHandler):
            if not isinstance(node.type, ast.Name):
                found.append(("L19", node.lineno))
            elif node.type.id in ERRORS - {"KeyError", "ZeroDivisionError", "StopIteration"}:
                found.append(("L19", node.lineno))
        elif isinstance(node, ast.Raise) and not isinstance(node.exc, ast.Call):
            found.append(("L19", node.lineno))
    return found


def class_faults(tree):
    """L18: a class, which has a name with a great letter first, is called or is a base or named
    by isinstance, except or raise; or its __init__ is called by one that stands under it."""
    allowed = set()
    for node in ast.walk(tree):
        if isinstance(node, ast.Call):
            allowed.add(node.func)
            if isinstance(node.func, ast.Name) and node.func.id == "isinstance":
                allowed.update(node.args)
        elif isinstance(node, ast.ClassDef):
            allowed.update(node.bases)
        elif isinstance(node, ast.ExceptHandler):
            allowed.add(node.type)
        elif isinstance(node, ast.Attribute) and node.attr == "__init__":
            allowed.add(node.value)
    return [
        ("L18", node.lineno) for node in ast.walk(tree)
        if isinstance(node, ast.Name) and node not in allowed
        and re.match("[A-Z][a-z]", node.id)
    ]


def own_methods(trees):
    """The names of the methods that the package's own classes have."""
    return frozenset(
        part.name
        for tree in trees
        for node in ast.walk(tree) if isinstance(node, ast.ClassDef)
        for part in node.body if isinstance(part, ast.FunctionDef)
    )


def own_values(trees):
    """The names of the values that the package's own objects have."""
    return frozenset(
        node.attr
        for tree in trees
        for node in ast.walk(tree)
        if isinstance(node, ast.Attribute) and isinstance(node.ctx, ast.Store)
    )


def imports(tree):
    """Pairs of a module and a name that the file draws from it."""
    return [
        (node.module, alias.name)
        for node in tree.body if isinstance(node, ast.ImportFrom)
        for alias in node.names
    ]


def defined(tree):
    """The names that the file itself gives a meaning at its top."""
    names = set()
    for node in tree.body:
        if isinstance(node, (ast.FunctionDef, ast.ClassDef)):
            names.add(node.name)
        elif isinstance(node, ast.Assign):
            names.update(target.id for target in node.targets)
    return names
