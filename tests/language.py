"""Holds a file of the package against LANGUAGE.md, and tells each fault as (rule, line).

Where the package has no need of a form that the rules allow under conditions (sets, lambda, try, inner
functions, annotations, methods, values of objects, `key=`, backslashes), the form is refused outright: that is
simpler, and never too lenient. So L13, L24, L26 and L28 have nothing left to speak of. What no form shows is
left to reading: of L11, how deep a recursion goes, and that nothing hangs on the words of Python's own errors.
"""

import ast
import builtins
import re

PACKAGE = "bracketnumbers"

CALLED = """len range enumerate zip min max sum abs sorted reversed int str bool list tuple dict isinstance ord repr
    any all divmod""".split()
ERRORS = """Exception ValueError TypeError KeyError IndexError LookupError ZeroDivisionError ArithmeticError
    OverflowError RuntimeError NotImplementedError AttributeError StopIteration""".split()
METHODS = """append clear copy count endswith extend find get index insert isalnum isalpha isdigit islower isspace
    isupper items join keys ljust lower lstrip partition pop remove replace reverse rfind rjust rpartition rsplit
    rstrip setdefault split splitlines startswith strip update upper values zfill bit_length""".split()
KEYWORDS = {
    "sorted": ("reverse",), "min": ("default",), "max": ("default",), "sum": ("start",), "enumerate": ("start",),
    "zip": ("strict",),
}
CHANGING = ("append", "clear", "extend", "insert", "pop", "remove", "reverse", "setdefault", "update")
WALKED = ("zip", "enumerate", "reversed", "range", "items", "keys", "values")
WALKERS = ("list", "tuple", "dict", "sorted", "sum", "any", "all", "enumerate", "zip", "min", "max")
BASES = [name for name in ERRORS if name not in ("StopIteration", "AttributeError")]
NAMES_OUT = """register mro elements open input version_info with_traceback add_note attrgetter breakpoint builtins
    compile copyright credits delattr dir eval exec exit gc getattr globals hasattr help id importlib license locals
    methodcaller os quit setattr super type vars sys chr print set frozenset format format_map""".split()
WORDS_OUT = """type typing typing_extensions enum Enum IntEnum StrEnum Flag IntFlag Generic Protocol ABC ABCMeta
    namedtuple NamedTuple TypedDict TYPE_CHECKING abstractmethod""".split()
FILES_OUT = "test tests testing site conftest sitecustomize usercustomize".split() + WORDS_OUT + dir(builtins)
PIECES_OUT = ("dataclass", "overload", "contextmanager")
FORMS = (
    ast.Module, ast.ImportFrom, ast.alias, ast.FunctionDef, ast.arguments, ast.arg, ast.ClassDef, ast.Assign,
    ast.AugAssign, ast.If, ast.While, ast.For, ast.Return, ast.Break, ast.Continue, ast.Pass, ast.Raise, ast.Expr,
    ast.Constant, ast.List, ast.Tuple, ast.Dict, ast.BinOp, ast.UnaryOp, ast.BoolOp, ast.Compare, ast.IfExp, ast.Call,
    ast.keyword, ast.Attribute, ast.Subscript, ast.Slice, ast.ListComp, ast.comprehension, ast.JoinedStr,
    ast.FormattedValue, ast.Name, ast.expr_context, ast.boolop, ast.cmpop, ast.unaryop, ast.operator,
)
OPERATORS_OUT = (ast.Div, ast.MatMult)


def faults(text, own_modules):
    """own_modules: for each module of the package, by full name, the names bound at its top."""
    tree = ast.parse(text)
    for node in ast.walk(tree):
        for child in ast.iter_child_nodes(node):
            child.parent = node
    found = faults_of_signs(text) + faults_of_top(tree, own_modules) + faults_of_scopes(tree)
    for node in ast.walk(tree):
        found += [(rule, getattr(node, "lineno", 0)) for rule in faults_of_node(node)]
    return found


def faults_of_signs(text):
    found = []
    lines = text.split("\n")
    if len(lines) > 401:
        found.append(("L10", 401))
    for place, line in enumerate(lines, start=1):
        if len(line) > 120:
            found.append(("L10", place))
        if not all(" " <= sign <= "~" for sign in line):
            found.append(("L14", place))
        if "\\" in line:
            found.append(("L27", place))
        words = re.findall(r"[A-Za-z0-9_]+", line)
        if any(word in WORDS_OUT for word in words) or any(piece in line for piece in PIECES_OUT):
            found.append(("L17", place))
    return found


def bound_at_top(tree):
    names = []
    for node in tree.body:
        if isinstance(node, (ast.FunctionDef, ast.ClassDef)):
            names.append(node.name)
        elif isinstance(node, ast.ImportFrom):
            names += [alias.name for alias in node.names]
        elif isinstance(node, ast.Assign):
            names += [target.id for target in node.targets if isinstance(target, ast.Name)]
    return names


def is_docstring(node):
    return isinstance(node, ast.Expr) and isinstance(node.value, ast.Constant) and isinstance(node.value.value, str)


def is_plain(node, within=False):
    if isinstance(node, (ast.List, ast.Dict)) and within:
        return False
    if isinstance(node, (ast.List, ast.Tuple)):
        return all(is_plain(part, True) for part in node.elts)
    if isinstance(node, ast.Dict):
        return all(is_plain(part, True) for part in node.keys + node.values)
    return isinstance(node, ast.Constant)


def faults_of_top(tree, own_modules):
    found = []
    names = bound_at_top(tree)
    if len(names) != len(set(names)):
        found.append(("L15", 0))
    if any(name in dir(builtins) for name in names):
        found.append(("L8", 0))
    for place, node in enumerate(tree.body):
        if isinstance(node, ast.ImportFrom):
            drawn = [alias.name for alias in node.names]
            if node.level or not set(drawn) <= set(own_modules.get(node.module, ())):
                found.append(("L16", node.lineno))
            if any(alias.asname for alias in node.names):
                found.append(("L2", node.lineno))
        elif isinstance(node, ast.Assign):
            if not is_plain(node.value) or not isinstance(node.targets[0], ast.Name):
                found.append(("L3", node.lineno))
        elif not isinstance(node, (ast.FunctionDef, ast.ClassDef)) and not (place == 0 and is_docstring(node)):
            found.append(("L3", node.lineno))
    return found


def bound_within(function):
    names = [argument.arg for argument in function.args.args]
    for node in ast.walk(function):
        if isinstance(node, ast.Name) and isinstance(node.ctx, ast.Store):
            names.append(node.id)
    return names


def faults_of_scopes(tree):
    found = []
    top = bound_at_top(tree)
    functions = [node for node in ast.walk(tree) if isinstance(node, ast.FunctionDef)]
    kept = [node.name for node in tree.body if isinstance(node, ast.ClassDef)]
    for node in tree.body:
        kept += [alias.name for alias in node.names] if isinstance(node, ast.ImportFrom) else []
    for function in functions:
        own = bound_within(function)
        if any(name in kept or name in dir(builtins) for name in own):
            found.append(("L15", function.lineno))
        for node in ast.walk(function):
            if isinstance(node, ast.Name) and node.id not in own + top + CALLED + ERRORS:
                found.append(("L8", node.lineno))
        if function.end_lineno - function.lineno >= 40:
            found.append(("L10", function.lineno))
    tables = [node.targets[0].id for node in tree.body if isinstance(node, ast.Assign)
              and isinstance(node.value, (ast.List, ast.Dict)) and isinstance(node.targets[0], ast.Name)]
    for node in ast.walk(tree):
        if isinstance(node, ast.Name) and node.id in tables and isinstance(node.ctx, ast.Load) and not is_read(node):
            found.append(("L15", node.lineno))
    return found


def is_read(node):
    """Whether a list or dict of the top is only looked into where it stands."""
    parent = node.parent
    if isinstance(parent, ast.Subscript):
        return parent.value is node and isinstance(parent.ctx, ast.Load)
    if isinstance(parent, (ast.Compare, ast.For, ast.comprehension)):
        return True
    if isinstance(parent, ast.Attribute):
        return parent.attr in ("get", "items", "keys", "values", "count", "index", "copy")
    return isinstance(parent, ast.Call) and called_name(parent) in ("len", "list", "dict", "tuple", "sorted")


def called_name(call):
    if isinstance(call.func, ast.Name):
        return call.func.id
    return call.func.attr if isinstance(call.func, ast.Attribute) else ""


def faults_of_node(node):
    if not isinstance(node, FORMS) or isinstance(node, OPERATORS_OUT):
        return ["L7" if isinstance(node, (ast.expr, ast.operator)) else "L6"]
    for form, rules_of in NODE_RULES:
        if isinstance(node, form):
            return rules_of(node)
    return []


def of_function(node):
    found = of_written_name(node.name)
    arguments = node.args
    if arguments.vararg or arguments.kwarg or arguments.kwonlyargs or arguments.posonlyargs or node.decorator_list:
        found.append("L4")
    if not all(isinstance(value, ast.Constant) for value in arguments.defaults):
        found.append("L4")
    if node.returns or any(argument.annotation for argument in arguments.args):
        found.append("L21")
    if isinstance(node.parent, ast.FunctionDef):
        found.append("L4")
    return found


def of_class(node):
    found = of_written_name(node.name)
    if len(node.bases) > 1 or node.keywords or node.decorator_list or not isinstance(node.parent, ast.Module):
        found.append("L5")
    if not all(isinstance(part, ast.Pass) for part in node.body):
        found.append("L28" if any(isinstance(part, ast.FunctionDef) for part in node.body) else "L5")
    if any(isinstance(base, ast.Name) and base.id in ERRORS and base.id not in BASES for base in node.bases):
        found.append("L18")
    return found


def of_written_name(name):
    if name in NAMES_OUT:
        return ["L17"]
    return [] if re.fullmatch(r"[A-Za-z][A-Za-z0-9_]*", name) else ["L12"]


def is_class_name(name):
    """The package's constants are written in capitals alone, its functions without any."""
    return name[0].isupper() and not name.isupper()


def class_stands_well(node):
    parent = node.parent
    if isinstance(parent, ast.ClassDef):
        return True
    return isinstance(parent, ast.Call) and parent.func is node and isinstance(parent.parent, ast.Raise)


def of_name(node):
    found = of_written_name(node.id)
    is_called = isinstance(node.parent, ast.Call) and node.parent.func is node
    in_isinstance = any(isinstance(up, ast.Call) and called_name(up) == "isinstance"
                        for up in (node.parent, getattr(node.parent, "parent", None)))
    if node.id in CALLED and not is_called and not in_isinstance:
        found.append("L22")
    if is_class_name(node.id) and not class_stands_well(node):
        found.append("L18")
    return found


def of_call(node):
    found = []
    name = called_name(node)
    if isinstance(node.func, ast.Attribute) and name not in METHODS:
        found.append("L25")
    if name in ("sorted", "zip") and any(not isinstance(word.value, ast.Constant) for word in node.keywords):
        found.append("L22")
    if name in CALLED + METHODS and any(word.arg not in KEYWORDS.get(name, ()) for word in node.keywords):
        found.append("L22")
    if name in WALKED and not is_walked(node):
        found.append("L23")
    return found


def is_walked(node):
    parent = node.parent
    if isinstance(parent, (ast.For, ast.comprehension)):
        return parent.iter is node
    if not isinstance(parent, ast.Call):
        return False
    return called_name(parent) in WALKERS and parent.args[0] is node or called_name(parent) == "join"


def of_attribute(node):
    is_called = isinstance(node.parent, ast.Call) and node.parent.func is node
    if is_called:
        return of_written_name(node.attr)
    return of_written_name(node.attr) + ["L25" if node.attr in METHODS else "L26"]


def of_loop(node):
    found = ["L6"] if node.orelse else []
    iterated = list(ast.walk(node.iter)) if isinstance(node, ast.For) else []
    walked = [part.id for part in iterated if isinstance(part, ast.Name)]
    for part in [inner for line in node.body for inner in ast.walk(line)]:
        if isinstance(part, ast.Call) and isinstance(part.func, ast.Attribute) and part.func.attr in CHANGING:
            changed = part.func.value
        elif isinstance(part, ast.Subscript) and isinstance(part.ctx, ast.Store):
            changed = part.value
        elif isinstance(part, ast.AugAssign):
            changed = part.target
        else:
            continue
        found += ["L23"] if isinstance(changed, ast.Name) and changed.id in walked else []
    return found


def of_constant(node):
    value = node.value
    found = [] if value is None or isinstance(value, (int, str)) else ["L7"]
    if isinstance(value, str) and "%" in value or isinstance(value, int) and value >= 10 ** 900:
        found.append("L27")
    return found


def of_compare(node):
    sides = [node.left] + node.comparators
    beside = [isinstance(side, ast.Constant) and (side.value is None or isinstance(side.value, bool)) for side in sides]
    asked = any(isinstance(sign, (ast.Is, ast.IsNot)) for sign in node.ops)
    return ["L20"] if asked and not any(beside) else []


def of_power(node):
    written = isinstance(node.right, ast.Constant) and isinstance(node.right.value, int) and 0 <= node.right.value <= 64
    return ["L27"] if isinstance(node.op, ast.Pow) and not written else []


def of_raise(node):
    if not isinstance(node.exc, ast.Call) or node.cause is not None:
        return ["L19"]
    return ["L19"] if called_name(node.exc) in ERRORS else []


def of_statement(node):
    is_top_docstring = isinstance(node.parent, ast.Module) and is_docstring(node)
    return [] if isinstance(node.value, ast.Call) or is_top_docstring else ["L6"]


def of_comprehension(node):
    return ["L7"] if len(node.generators) > 1 or len(node.generators[0].ifs) > 1 else []


def of_braces(node):
    return [] if isinstance(node.value, ast.Name) and node.format_spec is None else ["L7"]


NODE_RULES = (
    (ast.FunctionDef, of_function), (ast.ClassDef, of_class), (ast.Name, of_name), (ast.Call, of_call),
    (ast.Attribute, of_attribute), (ast.Constant, of_constant), (ast.Compare, of_compare), (ast.BinOp, of_power),
    (ast.Raise, of_raise), (ast.Expr, of_statement), (ast.ListComp, of_comprehension),
    (ast.FormattedValue, of_braces), (ast.arg, lambda node: of_written_name(node.arg)),
    ((ast.For, ast.While), of_loop),
    (ast.Assign, lambda node: ["L6"] if len(node.targets) > 1 else []),
)
