"""Finds breaches of those rules of the language that a program can see.

It covers what the package is most likely to break by mistake. It does not
replace reading the rules.
"""

import ast
import builtins
import re
import warnings

BUILTINS = set(
    "len range enumerate zip min max sum abs sorted reversed int str bool bytes list tuple dict set"
    " frozenset isinstance ord repr any all divmod iter next super property staticmethod classmethod"
    " Exception ValueError TypeError KeyError IndexError LookupError ZeroDivisionError"
    " ArithmeticError OverflowError RuntimeError NotImplementedError AttributeError StopIteration"
    " NotImplemented".split()
)
METHODS = re.compile(
    "__(init|eq|repr|str|len|enter|exit|call|iter|lt|le|gt|ge|ne|neg|pos|invert|abs|bool|contains"
    "|getitem|setitem|[ri]?(add|sub|mul|floordiv|mod|and|or|xor|lshift|rshift)|i?pow)__"
)
BARRED_NAMES = set(
    "register mro elements open input law version_info with_traceback add_note attrgetter breakpoint"
    " builtins compile copyright credits delattr dir eval exec exit gc getattr globals hasattr help id"
    " importlib license locals methodcaller os quit setattr type vars sys format format_map".split()
)
BARRED_WORDS = re.compile(
    r"\b(type|typing|typing_extensions|enum|Enum|IntEnum|StrEnum|Flag|IntFlag|Generic|Protocol|ABC|ABCMeta"
    r"|namedtuple|NamedTuple|TypedDict|TYPE_CHECKING|abstractmethod)\b|dataclass|overload|contextmanager"
)
VALUE_METHODS = set(
    "append clear copy count endswith extend find get index insert isalnum isalpha isdigit islower isspace isupper"
    " items join keys ljust lower lstrip partition pop remove replace reverse rfind rjust rpartition rsplit rstrip"
    " setdefault split splitlines startswith strip update upper values zfill bit_length title capitalize swapcase"
    " casefold center expandtabs removeprefix removesuffix rindex isascii isdecimal isnumeric istitle isidentifier"
    " isprintable translate add discard sort encode decode hex".split()
)
ITERATED_AT_ONCE = set("zip enumerate reversed range items keys values".split())
ITERATING = set("list tuple dict sorted sum any all enumerate zip min max join".split())
# A class with __eq__ makes generator expressions in these a breach, so none is used.
TAKING_LISTS = set("any all min max sum sorted".split())
CAUGHT = set("KeyError ZeroDivisionError StopIteration ValueError LookupError IndexError".split())
FUNCTIONS = (ast.FunctionDef, ast.Lambda)
CHANGING = (ast.Assign, ast.AugAssign, ast.AnnAssign, ast.Delete, ast.For, ast.While, ast.NamedExpr)
BARRED_NODES = (
    ast.Global, ast.AsyncFunctionDef, ast.AsyncFor, ast.AsyncWith, ast.Await, ast.Import, ast.Div, ast.MatMult,
)


def breaches(source, package="poolmarks", methods=()):
    """Return the rules that the text of one file breaks, as an ascending list.

    methods are those of the classes in all files of the package.
    """
    found = set(text_breaches(source))
    try:
        with warnings.catch_warnings():
            warnings.simplefilter("error")
            tree = ast.parse(source)
            compile(source, "file", "exec")
    except (SyntaxError, Warning):
        return sorted(found | {"L27"})
    found.update(module_breaches(tree, package))
    for node in ast.walk(tree):
        found.update(node_breaches(node))
    found.update(name_breaches(tree))
    found.update(scope_breaches(tree))
    found.update(call_breaches(tree, methods))
    found.update(error_breaches(tree))
    found.update(method_breaches(tree))
    found.update(table_breaches(tree))
    return sorted(found)


def text_breaches(source):
    lines = source.split("\n")
    if len(lines) - 1 > 399 or any(len(line) > 120 for line in lines) or "\t" in source:
        yield "L10"
    if any(char != "\n" and not " " <= char <= "~" for char in source):
        yield "L14"
    if BARRED_WORDS.search(source):
        yield "L17"


def is_docstring(node):
    return isinstance(node, ast.Expr) and isinstance(node.value, ast.Constant) and isinstance(node.value.value, str)


def is_plain_assignment(node):
    return isinstance(node, ast.Assign) and len(node.targets) == 1 and isinstance(node.targets[0], ast.Name)


def module_breaches(tree, package):
    bound = []
    begun = False
    for at, node in enumerate(tree.body):
        if isinstance(node, ast.ImportFrom):
            bound += [alias.asname or alias.name for alias in node.names]
            inside = (node.module or "").startswith(package + ".") or node.module == "__future__"
            if begun or node.level or not inside or any(alias.name == "*" for alias in node.names):
                yield "L2"
        elif isinstance(node, (ast.FunctionDef, ast.ClassDef)):
            bound.append(node.name)
            begun = True
        elif is_plain_assignment(node):
            bound.append(node.targets[0].id)
            begun = True
        elif not (at == 0 and is_docstring(node)):
            yield "L3"
    if len(bound) != len(set(bound)):
        yield "L15"


def node_breaches(node):
    if isinstance(node, BARRED_NODES):
        yield "L2" if isinstance(node, ast.Import) else "L6"
    if isinstance(node, ast.FunctionDef) and node.end_lineno - node.lineno + 1 > 40:
        yield "L10"
    if isinstance(node, FUNCTIONS) and node.args.posonlyargs:
        yield "L4"
    if isinstance(node, ast.FunctionDef) and node.name.startswith("__") and not METHODS.fullmatch(node.name):
        yield "L5"
    if isinstance(node, ast.Constant):
        yield from constant_breaches(node.value)
    if isinstance(node, ast.BinOp) and isinstance(node.op, ast.Pow):
        if not isinstance(node.right, ast.Constant) or node.right.value not in range(65):
            yield "L27"
    if isinstance(node, ast.Compare):
        for operator, right in zip(node.ops, node.comparators):
            if isinstance(operator, (ast.Is, ast.IsNot)):
                if not isinstance(right, ast.Constant) or right.value not in (None, True, False):
                    yield "L20"
    if isinstance(node, ast.ExceptHandler) and node.type is None:
        yield "L6"


def constant_breaches(value):
    if isinstance(value, (float, complex)):
        yield "L7"
    if isinstance(value, str) and "%" in value:
        yield "L27"


def bound_names(tree):
    """Yield each name that the file gives a meaning of its own."""
    for node in ast.walk(tree):
        if isinstance(node, (ast.FunctionDef, ast.ClassDef)):
            yield node.name
        elif isinstance(node, ast.arg):
            yield node.arg
        elif isinstance(node, ast.Name) and not isinstance(node.ctx, ast.Load):
            yield node.id
        elif isinstance(node, ast.alias):
            yield node.asname or node.name
        elif isinstance(node, ast.ExceptHandler) and node.name:
            yield node.name


def name_breaches(tree):
    own = set(bound_names(tree))
    for name in own:
        if name.startswith("_") and not METHODS.fullmatch(name) and name not in ("__all__", "__version__"):
            yield "L12"
        if name in BARRED_NAMES:
            yield "L17"
        if name in BUILTINS:
            yield "L8"
    for node in ast.walk(tree):
        if isinstance(node, ast.Name) and node.id not in own and node.id not in BUILTINS:
            yield "L8"
        if isinstance(node, ast.Attribute) and node.attr.startswith("_") and not METHODS.fullmatch(node.attr):
            yield "L12"


def scope_breaches(tree):
    """Yield the rule on names for functions whose names hide an import, a class or a builtin."""
    outer = {node.name for node in ast.walk(tree) if isinstance(node, ast.ClassDef)}
    outer.update(alias.asname or alias.name for node in ast.walk(tree) if isinstance(node, ast.ImportFrom)
                 for alias in node.names)
    for node in ast.walk(tree):
        if isinstance(node, ast.FunctionDef):
            inner = set(bound_names(node)) - {node.name}
            if inner & outer or inner & set(dir(builtins)):
                yield "L15"


def called_name(node):
    """Return the name of the function or method that a node calls, or None."""
    if not isinstance(node, ast.Call):
        return None
    if isinstance(node.func, ast.Attribute):
        return node.func.attr
    return node.func.id if isinstance(node.func, ast.Name) else None


def call_breaches(tree, methods):
    own = {node.name for node in ast.walk(tree) if isinstance(node, ast.FunctionDef)} | set(methods)
    for node in ast.walk(tree):
        called = called_name(node)
        if called and isinstance(node.func, ast.Attribute) and called not in VALUE_METHODS | own:
            yield "L25"
        for name, child in ast.iter_fields(node):
            for part in child if isinstance(child, list) else [child]:
                if called_name(part) in ITERATED_AT_ONCE - own and not iterates(node, name):
                    yield "L23"
                if isinstance(part, ast.GeneratorExp) and (called in TAKING_LISTS or called not in ITERATING):
                    yield "L7"


def iterates(node, name):
    """Return whether what stands in this field of the node is iterated at once."""
    if isinstance(node, ast.Compare):
        return isinstance(node.ops[0], (ast.In, ast.NotIn))
    return name == "iter" or called_name(node) in ITERATING | {"reversed", "len"}


def is_simple(node):
    """Return whether a node is one that a finally block may assign or append."""
    if isinstance(node, (ast.List, ast.Tuple)):
        return all(is_simple(part) for part in node.elts)
    if isinstance(node, ast.BinOp):
        return isinstance(node.op, ast.Add) and is_simple(node.left) and is_simple(node.right)
    if isinstance(node, ast.Attribute):
        return isinstance(node.value, (ast.Name, ast.Attribute))
    return isinstance(node, (ast.Name, ast.Constant))


def is_final(node):
    """Return whether a statement may stand in a finally block; conditions are not used there."""
    if isinstance(node, ast.Assign):
        return len(node.targets) == 1 and is_simple(node.targets[0]) and is_simple(node.value)
    if isinstance(node, ast.Expr) and called_name(node.value) in ("append", "clear"):
        return all(is_simple(part) for part in node.value.args)
    return isinstance(node, ast.Pass)


def error_breaches(tree):
    """Yield the rules on raising and catching errors, and on finally."""
    barred = {name for name in BUILTINS if name.endswith(("Error", "Exception"))} - CAUGHT
    for node in ast.walk(tree):
        if isinstance(node, ast.Raise) and node.exc is not None:
            if not isinstance(node.exc, ast.Call) or not isinstance(node.exc.func, ast.Name):
                yield "L19"
            elif any(isinstance(part, ast.Starred) for part in node.exc.args):
                yield "L7"
        if isinstance(node, ast.ExceptHandler) and node.type is not None:
            named = node.type.elts if isinstance(node.type, ast.Tuple) else [node.type]
            if not named or any(not isinstance(part, ast.Name) or part.id in barred for part in named):
                yield "L19"
        if isinstance(node, ast.Try) and not all(is_final(part) for part in node.finalbody):
            yield "L6"


def method_breaches(tree):
    """Yield the rule on double-underscore methods that assign something or do not end with a return."""
    for node in ast.walk(tree):
        if not isinstance(node, ast.FunctionDef):
            continue
        if node.name in ("__eq__", "__str__", "__repr__", "__len__"):
            if any(isinstance(part, CHANGING) for part in ast.walk(node)) or not isinstance(node.body[-1], ast.Return):
                yield "L28"
        if node.name == "__init__" and any(isinstance(part, ast.Return) for part in ast.walk(node)):
            yield "L28"


def table_breaches(tree):
    """Yield the rule on lists and dicts at module level that are not only read."""
    tables = {node.targets[0].id for node in tree.body if is_plain_assignment(node)
              and isinstance(node.value, (ast.Dict, ast.List))}
    for node in ast.walk(tree):
        for name, child in ast.iter_fields(node):
            for part in child if isinstance(child, list) else [child]:
                if isinstance(part, ast.Name) and part.id in tables and isinstance(part.ctx, ast.Load):
                    if not reads(node, name):
                        yield "L15"


def reads(node, name):
    """Return whether what stands in this field of the node is only read."""
    if isinstance(node, ast.Subscript):
        return name == "value" and isinstance(node.ctx, ast.Load)
    if isinstance(node, ast.Attribute):
        return node.attr in ("get", "items", "keys", "values", "index", "count")
    return isinstance(node, ast.Compare) or name == "iter" or called_name(node) in ("len", "list", "dict", "sorted")


def class_names(tree):
    """Yield (kind, name) for each method and each attribute that the classes of a file have."""
    for node in ast.walk(tree):
        if isinstance(node, ast.ClassDef):
            for part in node.body:
                if isinstance(part, ast.FunctionDef):
                    yield "method", part.name
        if isinstance(node, ast.Attribute) and isinstance(node.ctx, ast.Store):
            yield "attribute", node.attr
