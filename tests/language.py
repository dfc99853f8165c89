"""Looks for code that LANGUAGE.md rules out: those of its rules that a short look at a file can see."""

import ast
import builtins
import re

BUILT_IN = set("""
    len range enumerate zip min max sum abs sorted reversed int str bool list tuple dict set frozenset
    isinstance ord repr any all divmod Exception ValueError TypeError KeyError IndexError LookupError
    ZeroDivisionError ArithmeticError OverflowError RuntimeError NotImplementedError AttributeError
    StopIteration
""".split())
METHODS = set("""
    append clear copy count endswith extend find get index insert isalnum isalpha isdigit islower isspace
    isupper items join keys ljust lower lstrip partition pop remove replace reverse rfind rjust rpartition
    rsplit rstrip setdefault split splitlines startswith strip update upper values zfill bit_length add
    discard title
""".split())
UNDERSCORED = set("__init__ __eq__ __repr__ __str__ __len__ __all__ __version__ __name__".split())
NOWHERE = set("register mro elements open input version_info with_traceback add_note format format_map".split())
NOT_AS_NAMES = set("""
    attrgetter breakpoint builtins compile copyright credits delattr dir eval exec exit gc getattr globals
    hasattr help id importlib license locals methodcaller os quit setattr super vars sys
""".split())
NO_WORDS = re.compile(
    r"\b(type|typing|typing_extensions|enum|Enum|IntEnum|StrEnum|Flag|IntFlag|Generic|Protocol|ABC|ABCMeta"
    r"|namedtuple|NamedTuple|TypedDict|TYPE_CHECKING|abstractmethod)\b|dataclass|overload|contextmanager"
)
NODES = set("""
    Module FunctionDef ClassDef Return Assign AnnAssign AugAssign For While If Raise Try Expr Pass Break Continue
    ImportFrom alias arguments arg ExceptHandler keyword comprehension
    BoolOp BinOp UnaryOp Lambda IfExp Dict Set ListComp Compare Call JoinedStr FormattedValue Constant
    Attribute Subscript Name List Tuple Slice Load Store And Or Not Add Sub Mult FloorDiv Mod Pow
    LShift RShift BitOr BitXor BitAnd Invert UAdd USub Eq NotEq Lt LtE Gt GtE Is IsNot In NotIn
""".split())
PYTHON_OWN = set(dir(builtins))
PYTHON_METHODS = set().union(*[dir(kind) for kind in (str, int, list, dict, set, bytes)])
TOP_ROWS = (ast.ImportFrom, ast.FunctionDef, ast.ClassDef, ast.Assign, ast.AnnAssign)
MOST_LINES = 400
MOST_LINES_OF_A_FUNCTION = 40
MOST_SIGNS_OF_A_LINE = 120


def faults_of_text(text):
    """What the signs, words and sizes of a file break."""
    faults = []
    lines = text.split("\n")
    if len(lines) - 1 > MOST_LINES:
        faults.append("L10 file")
    for at, line in enumerate(lines, 1):
        if len(line) > MOST_SIGNS_OF_A_LINE:
            faults.append(f"L10 line {at}")
        if not all(" " <= sign <= "~" for sign in line):
            faults.append(f"L14 line {at}")
        if NO_WORDS.search(line):
            faults.append(f"L17 line {at}")
    return faults


def bound_names(node):
    """The names that a node gives a meaning."""
    if isinstance(node, (ast.FunctionDef, ast.ClassDef)):
        return [node.name]
    if isinstance(node, ast.arg):
        return [node.arg]
    if isinstance(node, ast.Name) and isinstance(node.ctx, ast.Store):
        return [node.id]
    if isinstance(node, ast.alias):
        return [node.asname or node.name]
    if isinstance(node, ast.ExceptHandler) and node.name:
        return [node.name]
    return []


def faults_of_binding(name):
    if name in NOWHERE:
        return ["L17"]
    if name.startswith("_") and name not in UNDERSCORED:
        return ["L12"]
    return []


def faults_of_names(node):
    faults = []
    for name in bound_names(node):
        faults += faults_of_binding(name)
        # A method may be called like a name of Python's own, so functions are looked at apart.
        if name in PYTHON_OWN | NOT_AS_NAMES and not isinstance(node, ast.FunctionDef):
            faults.append("L15 or L17")
    if isinstance(node, ast.Name) and node.id in (PYTHON_OWN | NOT_AS_NAMES) - BUILT_IN - UNDERSCORED:
        faults.append("L8 or L17")
    if isinstance(node, ast.Attribute):
        faults += faults_of_binding(node.attr)
        if node.attr in PYTHON_METHODS - METHODS - UNDERSCORED:
            faults.append("L25")
    return faults


def faults_of_function(node):
    faults = []
    given = node.args
    if given.vararg or given.kwarg or given.kwonlyargs or given.posonlyargs:
        faults.append("L4")
    if isinstance(node, ast.FunctionDef):
        if node.decorator_list:
            faults.append("L4")
        if node.end_lineno - node.lineno + 1 > MOST_LINES_OF_A_FUNCTION:
            faults.append("L10 function")
    return faults


def is_remark(node):
    return isinstance(node, ast.Expr) and isinstance(node.value, ast.Constant) and isinstance(node.value.value, str)


def faults_of_class(node):
    faults = []
    if node.decorator_list or node.keywords or len(node.bases) > 1:
        faults.append("L5")
    if not all(is_remark(part) or isinstance(part, (ast.FunctionDef, ast.Pass)) for part in node.body):
        faults.append("L5")
    methods = [part.name for part in node.body if isinstance(part, ast.FunctionDef)]
    if len(methods) != len(set(methods)):
        faults.append("L18")
    return faults


def faults_of_statement(node):
    if isinstance(node, (ast.For, ast.While)) and node.orelse:
        return ["L6"]
    if isinstance(node, ast.Try) and node.finalbody:
        return ["L6"]
    if isinstance(node, ast.Assign) and len(node.targets) != 1:
        return ["L6"]
    if isinstance(node, ast.Expr) and not isinstance(node.value, ast.Call) and not is_remark(node):
        return ["L6"]
    if isinstance(node, ast.ExceptHandler) and (node.type is None or "Exception" in ast.unparse(node.type).split()):
        return ["L19"]
    if isinstance(node, ast.ImportFrom) and node.module != "__future__":
        if node.level or not node.module.startswith("termcourt.") or "*" in [part.name for part in node.names]:
            return ["L2"]
    return []


def faults_of_value(node):
    if isinstance(node, ast.Constant):
        if isinstance(node.value, (float, complex, bytes)) or node.value is ...:
            return ["L7"]
        if isinstance(node.value, str) and "%" in node.value:
            return ["L27"]
    if isinstance(node, ast.ListComp) and (len(node.generators) != 1 or len(node.generators[0].ifs) > 1):
        return ["L7"]
    if isinstance(node, ast.FormattedValue) and not isinstance(node.value, ast.Name):
        return ["L7"]
    if isinstance(node, ast.BinOp) and isinstance(node.op, ast.Pow) and not isinstance(node.right, ast.Constant):
        return ["L27"]
    if isinstance(node, ast.Compare):
        sides = [node.left] + node.comparators
        for at, sign in enumerate(node.ops):
            beside = [ast.unparse(side) for side in sides[at:at + 2]]
            if isinstance(sign, (ast.Is, ast.IsNot)) and not {"None", "True", "False"} & set(beside):
                return ["L20"]
    return []


def faults_of_node(node):
    faults = faults_of_names(node) + faults_of_statement(node) + faults_of_value(node)
    if node.__class__.__name__ not in NODES:
        faults.append("L6 or L7")
    if isinstance(node, (ast.FunctionDef, ast.Lambda)):
        faults += faults_of_function(node)
    if isinstance(node, ast.ClassDef):
        faults += faults_of_class(node)
    return faults


def names_of_top(node):
    """The names that a row at a file's top binds."""
    targets = getattr(node, "targets", []) + getattr(node, "names", [])
    if isinstance(node, ast.AnnAssign):
        targets.append(node.target)
    names = []
    for part in [node] + targets:
        names += bound_names(part)
    return names


def faults_of_top(tree):
    """What the rows at a file's top break: a name bound twice, or something done there."""
    faults = []
    names = []
    for node in tree.body:
        if not is_remark(node) and not isinstance(node, TOP_ROWS):
            faults.append(f"L3 line {node.lineno}")
        if isinstance(node, ast.FunctionDef) and node.name in PYTHON_OWN | NOT_AS_NAMES:
            faults.append(f"L8 line {node.lineno}")
        names += names_of_top(node)
    if len(names) != len(set(names)):
        faults.append("L15 twice")
    return faults


def faults_of_locals(tree):
    """Parameters and locals that are called like a class or an import of the file."""
    taken = []
    for node in tree.body:
        if isinstance(node, (ast.ImportFrom, ast.ClassDef)):
            taken += names_of_top(node)
    found = []
    for function in ast.walk(tree):
        if isinstance(function, (ast.FunctionDef, ast.Lambda)):
            # A method may be called like an import; what is bound within it may not.
            within = [node for node in ast.walk(function) if isinstance(node, (ast.arg, ast.Name))]
            names = [name for node in within for name in bound_names(node)]
            found += [f"L15 line {function.lineno}" for name in names if name in taken]
    return found


def faults(text):
    """The rules that a file of this text breaks, with the lines."""
    tree = ast.parse(text)
    found = faults_of_text(text) + faults_of_top(tree) + faults_of_locals(tree)
    for node in ast.walk(tree):
        found += [f"{fault} line {getattr(node, 'lineno', 0)}" for fault in faults_of_node(node)]
    return found


def drawn_from(text):
    """The package's modules that a file of this text imports from, each with the names it takes."""
    rows = [node for node in ast.parse(text).body if isinstance(node, ast.ImportFrom)]
    return [(row.module, [part.name for part in row.names]) for row in rows if row.module != "__future__"]


def defined_in(text):
    """The names that a file of this text defines itself."""
    names = []
    for node in ast.parse(text).body:
        if not isinstance(node, ast.ImportFrom):
            names += names_of_top(node)
    return names


def methods_in(text):
    """The names of the methods of all classes of a file of this text."""
    classes = [node for node in ast.parse(text).body if isinstance(node, ast.ClassDef)]
    return {part.name for node in classes for part in node.body if isinstance(part, ast.FunctionDef)}


def values_in(text):
    """The names of the values that a file of this text gives to objects."""
    nodes = ast.walk(ast.parse(text))
    return {node.attr for node in nodes if isinstance(node, ast.Attribute) and isinstance(node.ctx, ast.Store)}
