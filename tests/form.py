"""The rules of form that can be seen in a file's text, as (line, rule) tuples.

It sees much of what LANGUAGE.md asks, not all of it: what it passes is still to be read by eye.
"""

import ast
import builtins
import re

CALLED = (
    "len range enumerate zip min max sum abs sorted reversed int str bool list tuple dict set frozenset "
    "isinstance ord repr any all divmod"
).split()
ERRORS = (
    "Exception ValueError TypeError KeyError IndexError LookupError ZeroDivisionError ArithmeticError "
    "OverflowError RuntimeError NotImplementedError AttributeError StopIteration"
).split()
SPECIAL = "__init__ __eq__ __repr__ __str__ __len__".split()
UNUSED = "register mro elements open input version_info with_traceback add_note format format_map".split()
UNUSED_NAMES = (
    "attrgetter breakpoint builtins compile copyright credits delattr dir eval exec exit gc getattr globals "
    "hasattr help id importlib license locals methodcaller os quit setattr super type vars sys __name__"
).split()
WORDS = (
    r"\b(type|typing|typing_extensions|enum|Enum|IntEnum|StrEnum|Flag|IntFlag|Generic|Protocol|ABC|ABCMeta"
    r"|namedtuple|NamedTuple|TypedDict|TYPE_CHECKING|abstractmethod)\b|dataclass|overload|contextmanager"
)
METHODS = (
    "append clear copy count endswith extend find get index insert isalnum isalpha isdigit islower isspace isupper "
    "items join keys ljust lower lstrip partition pop remove replace reverse rfind rjust rpartition rsplit rstrip "
    "setdefault split splitlines startswith strip update upper values zfill bit_length"
).split()
WALKERS = "list tuple dict sorted sum any all enumerate zip".split()
CHANGES = "append clear extend insert pop remove reverse setdefault update".split()
FIELDS = "count index title find get join lower upper split strip copy add".split()
PYTHONS = sorted({name for kind in (str, int, list, tuple, dict, set, bytes) for name in dir(kind)})
NODES = (
    "Module FunctionDef ClassDef arguments arg Assign AugAssign If While For Return Break Continue Pass Raise "
    "Try ExceptHandler Expr ImportFrom alias Constant List Tuple Dict Set BinOp UnaryOp BoolOp Compare IfExp "
    "Call keyword Attribute Subscript Slice Name Load Store ListComp comprehension JoinedStr FormattedValue "
    "Lambda Add Sub Mult FloorDiv Mod Pow BitAnd BitOr BitXor LShift RShift Invert Not USub UAdd And Or Eq NotEq "
    "Lt LtE Gt GtE Is IsNot In NotIn"
).split()


def text_faults(text):
    lines = text.split("\n")
    found = [(400, "L10")] if len(lines) > 401 else []
    for number, line in enumerate(lines, start=1):
        if len(line) > 120:
            found.append((number, "L10"))
        if re.search("[^ -~]", line):
            found.append((number, "L14"))
        if re.search(WORDS, line):
            found.append((number, "L17"))
    return found


def name_faults(name):
    found = []
    if not re.fullmatch("[A-Za-z][A-Za-z0-9_]*", name) and name not in SPECIAL:
        found.append("L12")
    if name in UNUSED:
        found.append("L17")
    return found


def bound_faults(name):
    return name_faults(name) + (["L15"] if hasattr(builtins, name) else [])


def is_plain(node):
    if isinstance(node, (ast.List, ast.Tuple)):
        return all([is_plain(each) for each in node.elts])
    if isinstance(node, ast.Dict):
        return all([is_plain(each) for each in node.keys + node.values])
    if isinstance(node, ast.UnaryOp):
        return isinstance(node.op, ast.USub) and is_plain(node.operand)
    return isinstance(node, (ast.Constant, ast.Name))


def is_docstring(node):
    return isinstance(node, ast.Expr) and isinstance(node.value, ast.Constant) and isinstance(node.value.value, str)


def top_faults(tree):
    found = []
    bound = []
    for node in tree.body:
        if isinstance(node, (ast.FunctionDef, ast.ClassDef)):
            bound.append((node.lineno, node.name))
        elif isinstance(node, ast.ImportFrom):
            bound.extend([(node.lineno, each.asname or each.name) for each in node.names])
        elif isinstance(node, ast.Assign) and isinstance(node.targets[0], ast.Name) and is_plain(node.value):
            bound.append((node.lineno, node.targets[0].id))
        elif not is_docstring(node):
            found.append((node.lineno, "L3"))
    names = [name for line, name in bound]
    return found + [(line, "L15") for at, (line, name) in enumerate(bound) if name in names[:at]]


def function_faults(node):
    given = node.args
    found = [] if node.end_lineno - node.lineno < 40 else ["L10"]
    if node.decorator_list or given.vararg or given.kwarg or given.kwonlyargs or given.posonlyargs:
        found.append("L4")
    if not all([is_plain(each) for each in given.defaults]):
        found.append("L4")
    if node.returns or any([each.annotation for each in given.args]):
        found.append("L21")
    for each in given.args:
        found.extend(bound_faults(each.arg))
    return found + name_faults(node.name)


def class_faults(node):
    found = ["L5"] if node.decorator_list or node.keywords or len(node.bases) > 1 else []
    for each in node.body:
        if not isinstance(each, ast.FunctionDef) and not is_docstring(each):
            found.append("L5")
    methods = [each.name for each in node.body if isinstance(each, ast.FunctionDef)]
    return found + name_faults(node.name) + (["L18"] if len(set(methods)) < len(methods) else [])


def name_use_faults(node):
    if isinstance(node.ctx, ast.Store):
        return bound_faults(node.id)
    found = name_faults(node.id) + (["L17"] if node.id in UNUSED_NAMES else [])
    if hasattr(builtins, node.id) and node.id not in CALLED + ERRORS:
        found.append("L8")
    return found


def constant_faults(node):
    if isinstance(node.value, str):
        return ["L27"] if "%" in node.value else []
    return [] if node.value is None or isinstance(node.value, int) else ["L7"]


def compare_faults(node):
    found = []
    for op, side in zip(node.ops, node.comparators):
        if isinstance(op, (ast.Is, ast.IsNot)) and ast.unparse(side) not in ("None", "True", "False"):
            found.append("L20")
    return found


def handler_faults(node):
    if node.type is None:
        return ["L6"]
    named = [each.id for each in ast.walk(node.type) if isinstance(each, ast.Name)]
    return ["L19"] if "Exception" in named or "TypeError" in named else []


def node_faults(node):
    kind = type(node).__name__
    if kind not in NODES:
        return ["L7"]
    if kind == "FunctionDef":
        return function_faults(node)
    if kind == "ClassDef":
        return class_faults(node)
    if kind == "Name":
        return name_use_faults(node)
    if kind == "Attribute":
        return name_faults(node.attr)
    if kind == "Constant":
        return constant_faults(node)
    if kind == "Compare":
        return compare_faults(node)
    if kind == "ExceptHandler":
        return handler_faults(node)
    if kind == "Assign":
        return ["L6"] if len(node.targets) > 1 else []
    if kind == "BinOp" and isinstance(node.op, ast.Pow):
        return [] if isinstance(node.right, ast.Constant) else ["L27"]
    if kind in ("For", "While", "Try") and (node.finalbody if kind == "Try" else node.orelse):
        return ["L6"]
    if kind == "ListComp":
        return [] if len(node.generators) == 1 and len(node.generators[0].ifs) < 2 else ["L7"]
    if kind == "Expr":
        return [] if is_docstring(node) or isinstance(node.value, ast.Call) else ["L6"]
    return []


def shadow_faults(tree):
    """Parameters and locals that are called like an import or a class of the file."""
    taken = [each.name for each in ast.walk(tree) if isinstance(each, (ast.ClassDef, ast.alias))]
    found = []
    for node in ast.walk(tree):
        if isinstance(node, ast.arg) and node.arg in taken:
            found.append((node.lineno, "L15"))
        if isinstance(node, ast.Name) and isinstance(node.ctx, ast.Store) and node.id in taken:
            found.append((node.lineno, "L15"))
    return found


def attribute_faults(tree):
    """Methods of Python's own that aren't among those that are used, and own ones that are called like them."""
    found = []
    for node in ast.walk(tree):
        if isinstance(node, ast.ClassDef):
            own = [each for each in node.body if isinstance(each, ast.FunctionDef) and each.name not in SPECIAL]
            barred = [each for each in PYTHONS if each not in METHODS + ["add", "discard"]]
            found.extend([(each.lineno, "L26") for each in own if each.name in barred])
        if isinstance(node, ast.Attribute) and isinstance(node.ctx, ast.Store):
            if node.attr in PYTHONS + ["args"] and node.attr not in FIELDS:
                found.append((node.lineno, "L26"))
        if isinstance(node, ast.Attribute) and isinstance(node.ctx, ast.Load):
            if node.attr in PYTHONS and node.attr not in METHODS + FIELDS + SPECIAL + ["discard"]:
                found.append((node.lineno, "L25"))
    return found


def walked(node):
    """The texts of what a loop walks, itself or through enumerate, zip, reversed or items."""
    through = ("enumerate", "zip", "reversed")
    if isinstance(node, ast.Call) and isinstance(node.func, ast.Name) and node.func.id in through:
        return [name for each in node.args for name in walked(each)]
    if isinstance(node, ast.Call) and isinstance(node.func, ast.Attribute):
        return [ast.unparse(node.func.value)] if node.func.attr in ("items", "keys", "values") else []
    return [ast.unparse(node)]


def loop_faults(tree):
    found = []
    for loop in [each for each in ast.walk(tree) if isinstance(each, ast.For)]:
        names = walked(loop.iter)
        for node in [inner for each in loop.body for inner in ast.walk(each)]:
            stored = isinstance(node, ast.Subscript) and isinstance(node.ctx, ast.Store)
            changed = isinstance(node, ast.Attribute) and node.attr in CHANGES
            if (stored or changed) and ast.unparse(node.value) in names:
                found.append((node.lineno, "L23"))
    return found


def is_walked_there(node, above):
    """Whether what stands beneath another node is walked on the spot by that one."""
    if isinstance(above, (ast.For, ast.comprehension)):
        return above.iter is node
    if not isinstance(above, ast.Call) or node is above.func:
        return False
    if isinstance(above.func, ast.Attribute):
        return above.func.attr == "join" and isinstance(above.func.value, ast.Constant)
    if above.func.id in ("min", "max"):
        return len(above.args) == 1
    if above.func.id == "zip":
        return True
    return above.func.id in WALKERS and above.args[0] is node


def is_only_walked(node):
    """Whether a call gives what may be walked alone."""
    if not isinstance(node, ast.Call):
        return False
    if isinstance(node.func, ast.Attribute):
        return node.func.attr in ("items", "keys", "values") and not node.args
    return isinstance(node.func, ast.Name) and node.func.id in ("zip", "enumerate", "reversed", "range")


def kept_walk_faults(tree):
    found = []
    for above in ast.walk(tree):
        for node in ast.iter_child_nodes(above):
            if is_only_walked(node) and not is_walked_there(node, above):
                found.append((node.lineno, "L23"))
    return found


def file_faults(text):
    """Faults of one file by itself."""
    tree = ast.parse(text)
    found = text_faults(text) + top_faults(tree) + shadow_faults(tree) + attribute_faults(tree)
    found = found + loop_faults(tree) + kept_walk_faults(tree)
    for node in ast.walk(tree):
        found.extend([(getattr(node, "lineno", 0), rule) for rule in node_faults(node)])
    return sorted(set(found))


def defined_names(text):
    """The names that a file itself defines at its top."""
    names = []
    for node in ast.parse(text).body:
        if isinstance(node, (ast.FunctionDef, ast.ClassDef)):
            names.append(node.name)
        elif isinstance(node, ast.Assign):
            names.extend([each.id for each in node.targets if isinstance(each, ast.Name)])
    return names


def drawn_from(text):
    """(line, module, names) of each import."""
    found = []
    for node in ast.walk(ast.parse(text)):
        if isinstance(node, ast.ImportFrom):
            found.append((node.lineno, "." * node.level + (node.module or ""), [each.name for each in node.names]))
    return found


def import_faults(files):
    """Faults of the imports among all files, a dict from module names to texts, as (module, line, rule)."""
    found = []
    for module, text in files.items():
        for line, source, names in drawn_from(text):
            defined = defined_names(files[source]) if source in files else []
            if source not in files or [name for name in names if name not in defined]:
                found.append((module, line, "L16"))
        if module in reached(files, module):
            found.append((module, 0, "L16"))
    return found


def reached(files, module):
    """All modules that one draws from, in whatever many steps."""
    seen = []
    ahead = [module]
    while ahead:
        for line, source, names in drawn_from(files.get(ahead.pop(), "")):
            steps = [source, source.rpartition(".")[0]]
            ahead.extend([each for each in steps if each not in seen])
            seen.extend([each for each in steps if each not in seen])
    return seen


def methods_and_values(files):
    """Names that are a method in one class and a value of objects in another."""
    methods, fields = set(), set()
    for text in files.values():
        for node in ast.walk(ast.parse(text)):
            if isinstance(node, ast.ClassDef):
                methods.update([each.name for each in node.body if isinstance(each, ast.FunctionDef)])
            if isinstance(node, ast.Attribute) and isinstance(node.ctx, ast.Store):
                fields.add(node.attr)
    return sorted(methods & fields)
