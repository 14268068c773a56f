"""What a test can see of LANGUAGE.md: `faults` reads the files of a package and tells what breaks a rule.

Each function under "The rules" takes the package and one of its files and yields tuples
(rule, node or line number, why). Where a rule is about values and not about how the code is
written, nothing is told.
"""

import ast
import builtins
import keyword
import re
import sys
import types
import warnings

PACKAGE = "feastfall"
ERRORS = {"Exception", "ValueError", "TypeError", "KeyError", "IndexError", "LookupError", "ZeroDivisionError",
          "ArithmeticError", "OverflowError", "RuntimeError", "NotImplementedError", "AttributeError",
          "StopIteration"}
FUNCTIONS = {"len", "range", "enumerate", "zip", "min", "max", "sum", "abs", "sorted", "reversed", "int", "str",
             "bool", "bytes", "list", "tuple", "dict", "set", "frozenset", "isinstance", "ord", "repr", "any", "all",
             "divmod"}
CALL_KEYWORDS = {"sorted": {"key", "reverse"}, "min": {"key", "default"}, "max": {"key", "default"},
                 "sum": {"start"}, "enumerate": {"start"}, "zip": {"strict"}}
AS_KEY = {"len", "int", "str", "abs", "sum", "min", "max", "tuple"}
AS_KIND = {"int", "str", "bool", "bytes", "list", "tuple", "dict"}
FIRST_METHODS = set("""append clear copy count endswith extend find get index insert isalnum isalpha isdigit islower
    isspace isupper items join keys ljust lower lstrip partition pop remove replace reverse rfind rjust rpartition
    rsplit rstrip setdefault split splitlines startswith strip update upper values zfill bit_length""".split())
MORE_METHODS = set("""title capitalize swapcase casefold center expandtabs removeprefix removesuffix rindex isascii
    isdecimal isnumeric istitle isidentifier isprintable translate encode decode hex fromhex to_bytes from_bytes
    maketrans add discard sort""".split())
CHANGING = {"append", "clear", "extend", "insert", "pop", "remove", "reverse", "setdefault", "update", "sort", "add",
            "discard"}
FREE_ATTRIBUTES = {"count", "index", "title", "find", "get", "join", "lower", "upper", "split", "strip", "copy", "add"}
VALUE_NAMES = {name for kind in (str, int, list, dict, set, bytes) for name in dir(kind) if name[0] != "_"}
DUNDERS = {"__init__", "__eq__", "__repr__", "__str__", "__len__"}
NOWHERE = {"register", "mro", "elements", "open", "input", "version_info", "with_traceback", "add_note"} | {
    name for kind in (types.FrameType, types.TracebackType, types.CodeType, types.GeneratorType, types.CoroutineType,
                      types.AsyncGeneratorType)
    for name in dir(kind) if re.match("(f|tb|co|gi|cr|ag)_", name)}
NOT_AS_NAMES = set("""attrgetter breakpoint builtins compile copyright credits delattr dir eval exec exit gc getattr
    globals hasattr help id importlib license locals methodcaller os quit setattr super type vars""".split())
WORDS = """type typing typing_extensions enum Enum IntEnum StrEnum Flag IntFlag Generic Protocol ABC ABCMeta
    namedtuple NamedTuple TypedDict TYPE_CHECKING abstractmethod""".split()
BARRED = re.compile(r"\b(" + "|".join(WORDS) + r")\b|dataclass|overload|contextmanager")
STATEMENTS = (ast.FunctionDef, ast.ClassDef, ast.Return, ast.Delete, ast.Assign, ast.AugAssign, ast.AnnAssign,
              ast.For, ast.While, ast.If, ast.Raise, ast.Try, ast.Assert, ast.Import, ast.ImportFrom, ast.Expr,
              ast.Pass, ast.Break, ast.Continue)
EXPRESSIONS = (ast.BoolOp, ast.BinOp, ast.UnaryOp, ast.Lambda, ast.IfExp, ast.Dict, ast.Set, ast.ListComp,
               ast.SetComp, ast.DictComp, ast.Compare, ast.Call, ast.FormattedValue, ast.JoinedStr, ast.Constant,
               ast.Attribute, ast.Subscript, ast.Starred, ast.Name, ast.List, ast.Tuple, ast.Slice)
COMPREHENSIONS = (ast.ListComp, ast.SetComp, ast.DictComp)
PLAIN = (ast.Constant, ast.Name, ast.List, ast.Tuple, ast.Dict, ast.BinOp, ast.UnaryOp, ast.operator, ast.unaryop,
         ast.expr_context)
ANNOTATIONS = (ast.Name, ast.Attribute, ast.Subscript, ast.Constant, ast.List, ast.Tuple, ast.BinOp, ast.BitOr,
               ast.expr_context)
SCOPES = (ast.FunctionDef, ast.Lambda)
ON_THE_SPOT = {"zip", "enumerate", "reversed", "range"}
TAKES_ON_THE_SPOT = {"list", "tuple", "dict", "sorted", "sum", "any", "all", "enumerate", "zip", "bytes", "min", "max"}
TRY_CALLS = {"int", "str", "len", "isinstance", "abs", "ord", "enumerate", "list", "tuple", "bytes", "zip", "range",
             "sorted", "any", "all", "bool", "min", "max", "sum"}
TRY_METHODS = (FIRST_METHODS | MORE_METHODS) - {"translate", "maketrans", "expandtabs", "sort", "add", "discard",
                                                "setdefault", "update", "insert", "extend", "clear", "reverse"}


class File:
    """One file of the package, parsed, with the way from each node up to the one around it."""

    def __init__(self, name, text):
        self.name = name
        self.text = text
        with warnings.catch_warnings():
            # `warned` tells of them; here they would only be printed.
            warnings.simplefilter("ignore")
            self.tree = ast.parse(text)
        self.nodes = list(ast.walk(self.tree))
        self.up = {}
        for node in self.nodes:
            for child in ast.iter_child_nodes(node):
                self.up[child] = node
        self.imported = {(alias.asname or alias.name): (node.module, alias.name) for node in self.tree.body
                         if isinstance(node, ast.ImportFrom) for alias in node.names}
        self.bound = [name for node in self.tree.body for name in bound_at_module_level(node)]
        self.classes = {node.name: node for node in self.tree.body if isinstance(node, ast.ClassDef)}

    def of(self, *kinds):
        return [node for node in self.nodes if isinstance(node, kinds)]

    def above(self, node, kinds):
        """The nearest node around this one that is of these kinds, or None."""
        node = self.up.get(node)
        while node is not None and not isinstance(node, kinds):
            node = self.up.get(node)
        return node


class Package:
    """All files, and what they define together."""

    def __init__(self, sources):
        self.files = [File(name, text) for name, text in sorted(sources.items())]
        self.classes = {name: node for file in self.files for name, node in file.classes.items()}
        self.methods = [(file, holder, node) for file in self.files for holder in file.classes.values()
                        for node in holder.body if isinstance(node, ast.FunctionDef)]
        self.method_names = {node.name for _, _, node in self.methods}
        self.attributes = {node.attr for file in self.files for node in file.of(ast.Attribute)
                           if isinstance(node.ctx, ast.Store)}

    def module(self, path):
        """The file of a module's full name, or None."""
        name = path[len(PACKAGE) + 1:] + ".py"
        return next((file for file in self.files if file.name == name), None) if path != PACKAGE else None

    def is_error(self, name):
        """Own error classes and those of L8; the bases are followed."""
        for _ in range(len(self.classes) + 1):
            if name in ERRORS:
                return True
            holder = self.classes.get(name)
            if holder is None or not holder.bases or not isinstance(holder.bases[0], ast.Name):
                return False
            name = holder.bases[0].id
        return False

    def has(self, *names):
        return any(name in self.method_names for name in names)

    def definition(self, file, name):
        """The function or class that a module-level name of the file means, or None."""
        if name in file.imported:
            path, name = file.imported[name]
            file = self.module(path or "")
        if file is None:
            return None
        return next((node for node in file.tree.body
                     if isinstance(node, (ast.FunctionDef, ast.ClassDef)) and node.name == name), None)


def bound_at_module_level(node):
    if isinstance(node, ast.ImportFrom):
        return [alias.asname or alias.name for alias in node.names if node.module != "__future__"]
    if isinstance(node, (ast.FunctionDef, ast.ClassDef)):
        return [node.name]
    if isinstance(node, (ast.Assign, ast.AnnAssign, ast.AugAssign)):
        return [part.id for part in ast.walk(node) if isinstance(part, ast.Name) and isinstance(part.ctx, ast.Store)]
    return []


def is_docstring(node):
    return isinstance(node, ast.Expr) and isinstance(node.value, ast.Constant) and isinstance(node.value.value, str)


def called(node):
    """The plain name that is called, or the method's name, else None."""
    if not isinstance(node, ast.Call):
        return None
    if isinstance(node.func, ast.Name):
        return node.func.id
    return node.func.attr if isinstance(node.func, ast.Attribute) else None


def is_call_of(node, names):
    return isinstance(node, ast.Call) and isinstance(node.func, ast.Name) and node.func.id in names


def is_method_call(node, names):
    return isinstance(node, ast.Call) and isinstance(node.func, ast.Attribute) and node.func.attr in names


def parameters(arguments):
    return arguments.posonlyargs + arguments.args + arguments.kwonlyargs


def names_given(file):
    """Each name that the file gives to something, as (sort, name, node)."""
    for node in file.nodes:
        if isinstance(node, ast.Name) and not isinstance(node.ctx, ast.Load):
            yield "name", node.id, node
        elif isinstance(node, ast.FunctionDef):
            yield ("method" if isinstance(file.up[node], ast.ClassDef) else "name"), node.name, node
        elif isinstance(node, ast.ClassDef):
            yield "name", node.name, node
        elif isinstance(node, ast.arg):
            yield "name", node.arg, node
        elif isinstance(node, ast.ExceptHandler) and node.name:
            yield "name", node.name, node
        elif isinstance(node, ast.Attribute):
            yield "attribute", node.attr, node
        elif isinstance(node, ast.keyword) and node.arg:
            yield "keyword", node.arg, node
        elif isinstance(node, ast.ImportFrom) and node.module != "__future__":
            for alias in node.names:
                yield "name", alias.asname or alias.name, node


# The rules


def files_and_signs(pack, file):
    stem = file.name[:-3]
    if not re.fullmatch("[a-z0-9_]+", stem) or keyword.iskeyword(stem):
        yield "L1", 1, "the file's name is not plain"
    if re.match("law_|test_", stem) or stem in {"test", "tests", "testing", "site", "conftest", "sitecustomize",
                                                "usercustomize"} | set(WORDS) | set(dir(builtins)):
        yield "L14", 1, "a file of this name is barred"
    lines = file.text.split("\n")
    if len(file.text.splitlines()) > 400:
        yield "L10", 400, "more than 400 lines"
    for at, text in enumerate(lines, 1):
        if len(text) > 120:
            yield "L10", at, "more than 120 characters"
        if re.search("[^ -~]", text):
            yield "L14", at, "a character that is not from the space to ~"
        if BARRED.search(text):
            yield "L17", at, "a word that is barred from all files"


def imports(pack, file):
    top = True
    for node in file.tree.body:
        is_import = isinstance(node, (ast.Import, ast.ImportFrom))
        if is_import and not top:
            yield "L2", node, "an import that is not at the top"
        top = top and (is_import or is_docstring(node))
    for node in file.of(ast.Import, ast.ImportFrom):
        if not isinstance(file.up[node], ast.Module):
            yield "L2", node, "an import inside something"
        elif isinstance(node, ast.Import):
            if file.name != "__main__.py" or [(part.name, part.asname) for part in node.names] != [("sys", None)]:
                yield "L16", node, "an import of another form than from .. import .."
        elif node.module != "__future__":
            yield from import_from(pack, node)
        elif [(part.name, part.asname) for part in node.names] != [("annotations", None)]:
            yield "L2", node, "nothing but annotations is imported from there"


def import_from(pack, node):
    if node.level or node.module.split(".")[0] != PACKAGE or node.names[0].name == "*":
        yield "L2", node, "an import from outside the package, by a dot, or of everything"
        return
    source = pack.module(node.module)
    if source is None or source.name == "__main__.py":
        yield "L16", node, "an import that does not name a file of the package"
        return
    for alias in node.names:
        if alias.name not in [name for part in source.tree.body if not isinstance(part, ast.ImportFrom)
                              for name in bound_at_module_level(part)]:
            yield "L16", node, f"{alias.name} is not defined by that file"


def import_circles(pack, file):
    seen, rest = [], [file]
    while rest:
        for path, _ in rest.pop().imported.values():
            other = pack.module(path or "")
            if other is file:
                yield "L16", 1, "files that import from each other"
            if other is not None and other not in seen:
                seen.append(other)
                rest.append(other)


def module_level(pack, file):
    for at, node in enumerate(file.tree.body):
        if isinstance(node, (ast.Assign, ast.AnnAssign)):
            yield from module_value(file, node)
        elif not (isinstance(node, (ast.ImportFrom, ast.Import, ast.FunctionDef, ast.ClassDef))
                  or at == 0 and is_docstring(node)
                  or file.name == "__main__.py" and isinstance(node, ast.If)):
            yield "L3", node, "a statement that does not stand at module level"
    for name in set(file.bound):
        if file.bound.count(name) > 1:
            yield "L15", 1, f"{name} is bound twice"
    for node in file.of(ast.ClassDef):
        if not isinstance(file.up[node], ast.Module):
            yield "L15", node, "a class that is not at module level"


def module_value(file, node):
    targets = node.targets if isinstance(node, ast.Assign) else [node.target]
    if len(targets) > 1 or not isinstance(targets[0], ast.Name):
        yield "L3", node, "not one plain name"
    if node.value is None:
        return
    for part in ast.walk(node.value):
        if not isinstance(part, PLAIN):
            yield "L3", node, "not a plain value"
        elif isinstance(part, (ast.List, ast.Dict)) and part is not node.value:
            yield "L15", node, "a list or a dict inside another value"


def tables_are_only_read(pack, file):
    tables = {name for node in file.tree.body if isinstance(node, (ast.Assign, ast.AnnAssign))
              and isinstance(node.value, (ast.List, ast.Dict)) for name in bound_at_module_level(node)}
    for node in file.of(ast.Name):
        if node.id not in tables or isinstance(file.up[node], (ast.Assign, ast.AnnAssign)) and not file.above(
                node, SCOPES):
            continue
        around = file.up[node]
        if is_changed(file, node):
            yield "L15", node, "a list or a dict of the module is changed"
        elif isinstance(around, (ast.Return, ast.Assign, ast.List, ast.Tuple, ast.Dict, ast.keyword)):
            yield "L15", node, "a list or a dict of the module is passed on"
        elif isinstance(around, ast.Call) and node in around.args and not is_call_of(around, FUNCTIONS):
            yield "L15", node, "a list or a dict of the module is passed on"


def is_changed(file, node):
    """Whether this very place changes what stands there."""
    around = file.up[node]
    if isinstance(around, ast.AugAssign):
        return around.target is node
    if isinstance(around, ast.Subscript) and around.value is node:
        return not isinstance(around.ctx, ast.Load) or (
            isinstance(file.up[around], ast.AugAssign) and file.up[around].target is around)
    return isinstance(around, ast.Attribute) and around.attr in CHANGING and isinstance(file.up[around], ast.Call)


def functions(pack, file):
    for node in file.of(ast.FunctionDef, ast.Lambda):
        form = node.args
        if form.vararg or form.kwarg or form.posonlyargs or getattr(node, "decorator_list", None):
            yield "L4", node, "*args, **kwargs, / or a decorator"
        if isinstance(node, ast.Lambda) and form.kwonlyargs:
            yield "L4", node, "a bare * in a lambda"
        for value in form.defaults + [value for value in form.kw_defaults if value]:
            if not all(isinstance(part, PLAIN) and not isinstance(part, (ast.List, ast.Dict))
                       for part in ast.walk(value)):
                yield "L4", value, "a default value that is not plain"
        if isinstance(node, ast.FunctionDef) and node.end_lineno - node.lineno + 1 > 40:
            yield "L10", node, "more than 40 lines"
    lambdas = [(node.lineno, [part.arg for part in parameters(node.args)]) for node in file.of(ast.Lambda)]
    for at, names in lambdas:
        if lambdas.count((at, names)) > 1:
            yield "L13", at, "two lambdas with the same parameters on one line"


def classes(pack, file):
    for node in file.of(ast.ClassDef):
        if len(node.bases) > 1 or node.keywords or node.decorator_list:
            yield "L5", node, "more than one base class, a keyword or a decorator"
        for base in node.bases:
            if not isinstance(base, ast.Name) or base.id not in pack.classes and base.id not in ERRORS:
                yield "L5", node, "a base class that is neither own nor an error"
            elif base.id in ("StopIteration", "AttributeError"):
                yield "L18", node, "an error class under one of these"
        for at, part in enumerate(node.body):
            if not isinstance(part, (ast.FunctionDef, ast.Pass)) and not (at == 0 and is_docstring(part)):
                yield "L5", part, "a class holds methods only"
        names = [part.name for part in node.body if isinstance(part, ast.FunctionDef)]
        for name in set(names):
            if names.count(name) > 1:
                yield "L18", node, f"the method {name} is defined twice"
            if name[:2] == "__" and name not in DUNDERS:
                yield "L5", node, f"the method {name}"
            if name in pack.attributes:
                yield "L18", node, f"{name} is a method here and an attribute elsewhere"
            if name in VALUE_NAMES and name not in FIRST_METHODS | {"add", "discard"}:
                yield "L26", node, f"a method called {name}"


def class_uses(pack, file):
    own = set(file.classes) | {name for name in file.imported if file.imported[name][1] in pack.classes}
    for node in file.of(ast.Name):
        if node.id in own and isinstance(node.ctx, ast.Load) and not is_class_place(file, node):
            yield "L18", node, f"the class {node.id} is used as a value"


def is_class_place(file, node):
    around = file.up[node]
    if isinstance(around, ast.Tuple):
        node, around = around, file.up[around]
    if isinstance(around, ast.Call):
        return around.func is node or is_call_of(around, {"isinstance"}) and around.args[1:] == [node]
    if isinstance(around, ast.Attribute):
        return around.attr == "__init__"
    return isinstance(around, (ast.ClassDef, ast.ExceptHandler, ast.Raise)) or is_annotation(file, node)


def is_annotation(file, node):
    while isinstance(node, ast.expr):
        around = file.up[node]
        if node in (getattr(around, "annotation", None), getattr(around, "returns", None)):
            return True
        node = around
    return False


def attributes(pack, file):
    for node in file.of(ast.Attribute):
        around = file.up[node]
        is_called = isinstance(around, ast.Call) and around.func is node
        if isinstance(node.ctx, ast.Store):
            if node.attr in VALUE_NAMES and node.attr not in FREE_ATTRIBUTES or node.attr in ("args", "format"):
                yield "L26", node, f"an attribute called {node.attr}"
            if not isinstance(node.value, (ast.Name, ast.Attribute, ast.Subscript)) or (
                    isinstance(node.value, ast.Name) and node.value.id in file.bound):
                yield "L18", node, "an attribute that is not assigned through a local name"
        elif isinstance(node.ctx, ast.Del):
            yield "L6", node, "an attribute is deleted"
        elif file.name == "__main__.py" and isinstance(node.value, ast.Name) and node.value.id == "sys":
            if node.attr not in ("stdin", "stdout", "stderr", "argv", "exit"):
                yield "L9", node, f"sys.{node.attr}"
        elif node.attr in ("format", "format_map", "mro"):
            yield "L8", node, f"an attribute called {node.attr}"
        elif not is_called and node.attr not in pack.attributes and node.attr != "__name__":
            if not (isinstance(around, ast.keyword) and around.arg == "key" and node.attr in pack.method_names):
                yield "L18", node, f"no class assigns {node.attr}"
        elif is_called and node.attr not in FIRST_METHODS | MORE_METHODS | pack.method_names | pack.attributes | {
                "__init__"}:
            yield "L25", node, f"the method {node.attr}"


def statements(pack, file):
    for node in file.of(ast.stmt):
        if not isinstance(node, STATEMENTS):
            yield "L6", node, "a statement that is not allowed"
        elif isinstance(node, (ast.For, ast.While)) and node.orelse:
            yield "L6", node, "else after a loop"
        elif isinstance(node, ast.Expr) and not isinstance(node.value, ast.Call) and not is_docstring(node):
            yield "L6", node, "an expression on its own"
        elif isinstance(node, ast.Assert) and isinstance(node.test, ast.Tuple):
            yield "L6", node, "a tuple is asserted"
        elif isinstance(node, ast.AugAssign) and isinstance(node.target, ast.Subscript) and isinstance(
                node.target.slice, ast.Slice):
            yield "L6", node, "+= on a slice"
        elif isinstance(node, ast.AugAssign) and isinstance(node.op, (ast.Div, ast.MatMult)):
            yield "L7", node, "/ or @"
        elif isinstance(node, ast.Delete) and any(isinstance(part, (ast.Tuple, ast.List)) for part in node.targets):
            yield "L6", node, "del of something in parentheses"
        elif isinstance(node, ast.AnnAssign) and node.value is None:
            yield "L21", node, "an annotation without a value"
        elif isinstance(node, ast.Try):
            yield from last_part(node)


def last_part(node):
    for part in [inner for step in node.finalbody for inner in ast.walk(step)]:
        if isinstance(part, ast.stmt) and not isinstance(part, (ast.Pass, ast.Assign, ast.AugAssign, ast.Expr, ast.If)):
            yield "L6", part, "a statement that does not stand in a finally"
        elif isinstance(part, ast.Call) and not is_method_call(part, {"append", "clear"}):
            yield "L6", part, "a call that does not stand in a finally"
        elif isinstance(part, (ast.Subscript, ast.Dict, ast.JoinedStr, ast.Mult) + COMPREHENSIONS):
            yield "L6", part, "an expression that does not stand in a finally"


def expressions(pack, file):
    for node in file.of(ast.expr):
        if not isinstance(node, EXPRESSIONS):
            yield "L7", node, "an expression that is not allowed"
        elif isinstance(node, ast.Constant) and not (
                node.value is None or isinstance(node.value, (bool, int, str, bytes)) or is_annotation(file, node)):
            yield "L7", node, "a float or another such value"
        elif isinstance(node, ast.Starred) and not isinstance(node.ctx, ast.Store) or (
                isinstance(node, ast.Dict) and None in node.keys):
            yield "L7", node, "a star that is not in a target"
        elif isinstance(node, ast.BinOp) and isinstance(node.op, (ast.Div, ast.MatMult)):
            yield "L7", node, "/ or @"
        elif isinstance(node, ast.BinOp) and isinstance(node.op, ast.Pow) and not is_small_literal(node.right):
            yield "L27", node, "an exponent that is not a literal from 0 to 64"
        elif isinstance(node, ast.FormattedValue) and (node.format_spec or node.conversion not in (-1, 114)):
            yield "L7", node, "a format in an f-string"
        elif isinstance(node, COMPREHENSIONS) and (
                len(node.generators) > 6 or sum(len(part.ifs) for part in node.generators) > 12):
            yield "L7", node, "too long a comprehension"
        elif isinstance(node, ast.Call) and (isinstance(node.func, ast.Constant)
                                             or any(part.arg is None for part in node.keywords)):
            yield "L7", node, "a literal that is called, or **"
        elif isinstance(node, ast.Compare):
            yield from compared(node)


def compared(node):
    sides = [node.left] + node.comparators
    for at, sign in enumerate(node.ops):
        plain = [side for side in sides[at:at + 2] if isinstance(side, ast.Constant)
                 and (side.value is None or isinstance(side.value, bool))]
        if isinstance(sign, (ast.Is, ast.IsNot)) and not plain:
            yield "L20", node, "is with something else than None, True and False"


def is_small_literal(node):
    return isinstance(node, ast.Constant) and isinstance(node.value, int) and 0 <= node.value <= 64


def names(pack, file):
    allowed = FUNCTIONS | ERRORS | ({"print"} if file.name == "__main__.py" else set())
    for node in file.of(ast.Name):
        if isinstance(node.ctx, ast.Load) and node.id in dir(builtins) and node.id not in allowed:
            if not (is_annotation(file, node) and node.id in ("object", "float")) and node.id != "__name__":
                yield ("L27" if node.id == "chr" else "L8"), node, f"the builtin {node.id}"
    for sort, name, node in names_given(file):
        is_dunder = name in DUNDERS | {"__all__", "__version__", "__name__"}
        if not re.fullmatch("[A-Za-z][A-Za-z0-9_]*", name) and not is_dunder:
            yield "L12", node, f"the name {name}"
        if name in NOWHERE or sort in ("name", "method") and name in NOT_AS_NAMES:
            yield "L17", node, f"the name {name}"
        if sort == "name" and name in dir(builtins) and not is_dunder:
            yield "L15", node, f"{name} has the name of a builtin"
        is_local = sort == "name" and (file.above(node, SCOPES) or isinstance(node, ast.arg))
        if is_local and (name in file.classes or name in file.imported):
            yield "L15", node, f"{name} has the name of a class or an import"


def builtins_called(pack, file):
    for node in file.of(ast.Name):
        if node.id in FUNCTIONS and isinstance(node.ctx, ast.Load) and not is_builtin_place(file, node):
            yield "L22", node, f"{node.id} is stored or passed on"
    for node in file.of(ast.Call):
        if isinstance(node.func, ast.Name) and node.func.id in FUNCTIONS | ERRORS:
            for part in node.keywords:
                if part.arg not in CALL_KEYWORDS.get(node.func.id, ()):
                    yield "L22", node, f"the keyword {part.arg} of {node.func.id}"
                elif part.arg in ("reverse", "strict") and not is_true_or_false(part.value):
                    yield "L22", node, f"{part.arg} that is not a literal"
        elif isinstance(node.func, ast.Attribute) and node.keywords:
            yield from method_keywords(pack, node)


def method_keywords(pack, node):
    names = {part.arg for part in node.keywords}
    name = node.func.attr
    if name in FIRST_METHODS or name in MORE_METHODS and name not in pack.method_names:
        is_own = isinstance(node.func.value, ast.Name) and node.func.value.id == "self" and name in pack.method_names
        if not is_own and not (name == "sort" and names <= {"key", "reverse"}) and names != {"signed"}:
            yield "L25", node, f"keywords of the method {name}"


def is_true_or_false(node):
    return isinstance(node, ast.Constant) and isinstance(node.value, bool)


def is_builtin_place(file, node):
    around = file.up[node]
    if isinstance(around, ast.Call) and around.func is node:
        return True
    if isinstance(around, ast.keyword) and around.arg == "key":
        return node.id in AS_KEY
    if isinstance(around, ast.Attribute):
        return (node.id, around.attr) in (("bytes", "fromhex"), ("int", "from_bytes"), ("str", "maketrans"))
    kinds = file.up[around] if isinstance(around, ast.Tuple) else around
    if is_call_of(kinds, {"isinstance"}) and node.id in AS_KIND:
        return True
    return is_annotation(file, node)


def own_calls(pack, file):
    for node in file.of(ast.Call):
        meant = pack.definition(file, node.func.id) if isinstance(node.func, ast.Name) else None
        if isinstance(meant, ast.FunctionDef):
            yield from passed(node, meant.args, 0)
        elif isinstance(meant, ast.ClassDef):
            yield from class_called(pack, node, meant)


def class_called(pack, node, meant):
    base = meant
    while base is not None:
        form = next((part for part in base.body if isinstance(part, ast.FunctionDef) and part.name == "__init__"), None)
        if form is not None:
            yield from passed(node, form.args, 1)
            return
        base = pack.classes.get(base.bases[0].id) if base.bases and isinstance(base.bases[0], ast.Name) else None
    if pack.is_error(meant.name):
        if node.keywords or any(isinstance(part, ast.Constant) and not isinstance(part.value, str)
                                for part in node.args):
            yield "L22", node, f"{meant.name} is passed something else than strings by position"
    elif node.args or node.keywords:
        yield "L22", node, f"{meant.name} takes no arguments"


def passed(node, form, first):
    plain = [part.arg for part in form.args][first:]
    needed = plain[:len(plain) - len(form.defaults)]
    needed += [part.arg for part, value in zip(form.kwonlyargs, form.kw_defaults) if value is None]
    given = plain[:len(node.args)] + [part.arg for part in node.keywords]
    known = plain + [part.arg for part in form.kwonlyargs]
    if len(node.args) > len(plain) or len(set(given)) < len(given) or set(given) - set(known) or set(needed) - set(
            given):
        yield "L22", node, "not the arguments that are taken"


def handlers(pack, file):
    for node in file.of(ast.Try):
        caught = set()
        for handler in node.handlers:
            kinds = handler.type.elts if isinstance(handler.type, ast.Tuple) else [handler.type]
            if not kinds or not all(isinstance(kind, ast.Name) and pack.is_error(kind.id) for kind in kinds):
                yield "L19", handler, "an except without named error classes"
                continue
            caught |= {kind.id for kind in kinds}
            if caught & {"Exception", "TypeError"}:
                yield "L19", handler, "an except of Exception or TypeError"
            if handler.name:
                yield from handled(pack, file, handler, kinds)
        if caught & {"ValueError", "LookupError", "IndexError"}:
            yield from tried(pack, node, caught)


def handled(pack, file, handler, kinds):
    is_own = all(kind.id in pack.classes for kind in kinds)
    for node in [part for step in handler.body for part in ast.walk(step)]:
        if isinstance(node, ast.Name) and node.id == handler.name:
            around = file.up[node]
            fits = isinstance(around, ast.Raise) and around.cause is node
            if is_own:
                fits = fits or isinstance(around, ast.FormattedValue) or is_call_of(around, {"str", "repr"}) or (
                    isinstance(around, ast.Attribute) and around.attr != "args")
            if not fits:
                yield "L19", node, "a use of the caught error"


def tried(pack, node, caught):
    for part in [inner for step in node.body for inner in ast.walk(step)]:
        if isinstance(part, ast.Call):
            fits = is_call_of(part, TRY_CALLS) or is_method_call(part, TRY_METHODS - pack.method_names)
        elif isinstance(part, ast.Slice):
            fits = part.step is None and not caught & {"KeyError", "LookupError"}
        elif isinstance(part, ast.Assign) and "ValueError" in caught and isinstance(part.targets[0], ast.Tuple):
            fits = isinstance(part.value, ast.Tuple) and len(part.value.elts) == len(part.targets[0].elts)
        else:
            fits = not isinstance(part, (ast.Pow, ast.Mod, ast.Lambda))
        if not fits:
            yield "L19", part if hasattr(part, "lineno") else node, "this is not tried with such an except"


def raises(pack, file):
    for node in file.of(ast.Raise):
        if node.exc is None:
            fits = file.above(node, (ast.ExceptHandler, ast.FunctionDef)).__class__ == ast.ExceptHandler
        else:
            fits = isinstance(node.exc, ast.Call) and isinstance(node.exc.func, ast.Name) and (
                pack.is_error(file.imported.get(node.exc.func.id, ("", node.exc.func.id))[1]))
        if not fits:
            yield "L19", node, "raise does not create its error on the spot"
        if node.cause is not None and not (isinstance(node.cause, ast.Constant) and node.cause.value is None
                                           or isinstance(node.cause, ast.Name)
                                           or isinstance(node.cause, ast.Call) and pack.is_error(called(node.cause))):
            yield "L19", node, "raise .. from something else"


def annotations(pack, file):
    notes = [note for node in file.nodes
             for note in (getattr(node, "annotation", None), getattr(node, "returns", None)) if note]
    for note in notes:
        if not all(isinstance(part, ANNOTATIONS) for part in ast.walk(note)):
            yield "L21", note, "an annotation of this form"


def iterated_at_once(pack, file):
    for node in file.of(ast.Call):
        is_view = is_method_call(node, {"items", "keys", "values"})
        if (is_view or is_call_of(node, ON_THE_SPOT)) and not is_iterated(file, node):
            yield "L23", node, f"{called(node)} is not iterated on the spot"
    for node in file.of(ast.For):
        yield from changed_in_loop(file, node)


def is_iterated(file, node):
    around = file.up[node]
    if isinstance(around, (ast.For, ast.comprehension)):
        return around.iter is node
    if isinstance(around, ast.Compare) and called(node) in ("keys", "range"):
        return node in around.comparators and isinstance(around.ops[0], (ast.In, ast.NotIn))
    if is_call_of(around, {"reversed"}):
        return called(node) == "range"
    if is_call_of(around, {"len"}):
        return called(node) in ("items", "keys", "values", "range")
    if is_method_call(around, {"join"}):
        return isinstance(around.func.value, ast.Constant)
    if is_call_of(around, {"zip"}):
        return node in around.args
    return is_call_of(around, TAKES_ON_THE_SPOT) and around.args[0] is node


def changed_in_loop(file, loop):
    parts = [loop.iter]
    if is_call_of(loop.iter, {"enumerate", "zip", "reversed"}):
        parts = loop.iter.args
    elif is_method_call(loop.iter, {"items", "keys", "values"}):
        parts = [loop.iter.func.value]
    gone_through = [ast.dump(part) for part in parts if isinstance(part, (ast.Name, ast.Attribute))]
    for node in [part for step in loop.body for part in ast.walk(step)]:
        if isinstance(node, (ast.Name, ast.Attribute)) and is_changed(file, node):
            if ast.dump(node).replace("Store()", "Load()") in gone_through:
                yield "L23", node, "what a loop iterates over is changed in the loop"


def is_set(node):
    if isinstance(node, ast.BinOp) and isinstance(node.op, (ast.Sub, ast.BitAnd, ast.BitOr, ast.BitXor)):
        return is_set(node.left) and is_set(node.right)
    return isinstance(node, (ast.Set, ast.SetComp)) or is_call_of(node, {"set", "frozenset"})


def sets(pack, file):
    for node in file.of(ast.Set, ast.SetComp, ast.Call):
        if is_set(node) and not is_set_place(file, node):
            yield "L24", node, "a set that is neither used on the spot nor stored by a statement of its own"
        if isinstance(node, ast.Set) and not is_tested(file, node) and sum(
                isinstance(part, ast.Constant) and isinstance(part.value, int) for part in node.elts) > 2:
            yield "L13", node, "a set literal with three or more integers"
    for node in file.of(ast.Assign):
        if is_set(node.value) and isinstance(node.targets[0], ast.Name):
            yield from stored_set(file, node)


def is_tested(file, node):
    around = file.up[node]
    return isinstance(around, ast.Compare) and node in around.comparators and isinstance(
        around.ops[around.comparators.index(node)], (ast.In, ast.NotIn))


def is_set_place(file, node):
    around = file.up[node]
    if isinstance(around, ast.BinOp):
        return is_set(around) and is_set_place(file, around)
    if isinstance(around, ast.Compare):
        is_equal = isinstance(around.ops[0], (ast.Eq, ast.NotEq))
        return is_tested(file, node) or is_equal and all(is_set(side) for side in [around.left] + around.comparators)
    if isinstance(around, ast.Assign):
        return around.value is node and isinstance(around.targets[0], ast.Name) and len(around.targets) == 1 and (
            file.above(around, SCOPES) is not None)
    return is_call_of(around, {"sorted", "len"}) and around.args == [node]


def stored_set(file, statement):
    name = statement.targets[0].id
    holder = file.above(statement, SCOPES)
    if holder is None:
        return
    for node in ast.walk(holder):
        if isinstance(node, ast.Name) and node.id == name and node is not statement.targets[0]:
            if not isinstance(node.ctx, ast.Load) or file.above(node, SCOPES) is not holder:
                yield "L24", node, f"the set {name} is assigned again, or named in a nested function"
            elif not is_stored_use(file, node):
                yield "L24", node, f"a use of the set {name}"


def is_stored_use(file, node):
    around = file.up[node]
    if isinstance(around, ast.Attribute):
        return around.attr in ("add", "discard") and isinstance(file.up[file.up[around]], ast.Expr)
    if isinstance(around, ast.Compare):
        return is_tested(file, node) or isinstance(around.ops[0], (ast.Eq, ast.NotEq))
    if is_call_of(around, {"len", "sorted"}):
        return around.args == [node]
    while isinstance(around, ast.BoolOp) or isinstance(around, ast.UnaryOp) and isinstance(around.op, ast.Not):
        node, around = around, file.up[around]
    return isinstance(around, (ast.If, ast.While, ast.Assert, ast.IfExp)) and around.test is node


def strings(pack, file):
    for node in file.of(ast.Constant, ast.JoinedStr):
        if isinstance(node, ast.Constant) and not isinstance(node.value, (str, bytes)):
            continue
        if file.above(node, ast.JoinedStr):
            if isinstance(node, ast.JoinedStr) or isinstance(node.value, bytes):
                yield "L27", node, "an f-string or bytes inside the braces of an f-string"
            continue
        written = ast.get_source_segment(file.text, node)
        if "%" in written:
            yield "L27", node, "the character % in a string"
        more = "x" if isinstance(node, ast.Constant) and isinstance(node.value, bytes) else ""
        for found in re.finditer(r"\\(.)", written, re.S):
            if found.group(1) not in "nt\\'\"" + more:
                yield "L27", node, "an escape that is not allowed"


def dunder_methods(pack, file):
    for node in file.of(ast.FunctionDef):
        in_class = isinstance(file.up[node], ast.ClassDef)
        if node.name[:2] == "__" and not in_class:
            yield "L28", node, "a double-underscore function outside a class"
        elif node.name == "__init__" and any(isinstance(part, ast.Return) and part.value for part in ast.walk(node)):
            yield "L28", node, "__init__ returns something"
        elif node.name in ("__repr__", "__str__", "__len__") and not isinstance(node.body[-1], ast.Return):
            yield "L28", node, "the last statement is no return"
        if node.name in DUNDERS - {"__init__"} and any(
                isinstance(part, ast.Attribute) and (isinstance(part.ctx, ast.Store) or is_changed(file, part))
                for part in ast.walk(node)):
            yield "L28", node, f"{node.name} changes something"
    for node in file.of(ast.Call):
        if is_method_call(node, {"__init__"}):
            holder = file.above(node, ast.FunctionDef)
            own = holder.args.args[0].arg if holder is not None and holder.name == "__init__" else None
            if not (node.args and isinstance(node.args[0], ast.Name) and node.args[0].id == own):
                yield "L28", node, "__init__ of a base class is called in another way"


def warned(pack, file):
    with warnings.catch_warnings():
        warnings.simplefilter("error")
        try:
            compile(file.text, file.name, "exec")
        except (SyntaxError, Warning) as found:
            yield "L27", 1, f"Python gives a warning: {found}"


RULES = (files_and_signs, imports, import_circles, module_level, tables_are_only_read, functions, classes, class_uses,
         attributes, statements, expressions, names, builtins_called, own_calls, handlers, raises, annotations,
         iterated_at_once, sets, strings, dunder_methods, warned)


def faults(sources):
    """All faults of a package, a dict from file names to texts, as texts `RULE FILE:LINE WHY`."""
    pack = Package(sources)
    found = []
    if "__init__.py" not in sources or len(sources) > 100 or PACKAGE in sys.stdlib_module_names:
        found.append("L14 : no __init__.py, more than 100 files, or the name of a module of Python's own")
    for file in pack.files:
        for rule in RULES:
            for number, where, why in rule(pack, file):
                at = where if isinstance(where, int) else where.lineno
                found.append(f"{number} {file.name}:{at} {why}")
    return found
