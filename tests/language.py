"""The rules of the language that a script can see. Each check returns a list of complaints, empty if all is well."""

import ast
import builtins
import io
import re
import sys
import tokenize
from pathlib import Path

LIBRARY = {
    "heapq": {"heappush", "heappop", "heapify", "heapreplace", "heappushpop"},
    "math": {"gcd", "lcm", "isqrt", "comb", "perm", "factorial"},
    "itertools": {"product", "combinations", "permutations", "chain", "accumulate", "pairwise", "islice", "zip_longest"},
    "collections": {"defaultdict", "deque"},
    "__future__": {"annotations"},
}
FRAMES = re.compile(r"(f|tb|co|gi|cr|ag)_[a-z]+$")
NOWHERE = {"register", "mro", "elements", "open", "input", "law", "version_info", "with_traceback", "add_note"}
NOT_NAMES = {
    "attrgetter", "breakpoint", "builtins", "compile", "copyright", "credits", "delattr", "dir", "eval", "exec", "exit",
    "gc", "getattr", "globals", "hasattr", "help", "id", "importlib", "license", "locals", "methodcaller", "os", "quit",
    "setattr", "super", "type", "vars",
}
BARRED_WORDS = {
    "typing", "typing_extensions", "enum", "Enum", "IntEnum", "StrEnum", "Flag", "IntFlag", "Generic", "Protocol",
    "ABC", "ABCMeta", "namedtuple", "NamedTuple", "TypedDict", "TYPE_CHECKING", "abstractmethod",
}
BARRED_PARTS = ("dataclass", "overload", "contextmanager")
BUILTINS = {
    "len", "range", "enumerate", "zip", "min", "max", "sum", "abs", "sorted", "reversed", "int", "str", "bool", "bytes",
    "list", "tuple", "dict", "set", "frozenset", "isinstance", "ord", "repr", "any", "all", "divmod", "pow", "getattr",
    "hasattr", "setattr", "iter", "next", "map", "type", "object", "super", "property", "staticmethod", "classmethod",
    "Exception", "ValueError", "TypeError", "KeyError", "IndexError", "LookupError", "ZeroDivisionError",
    "ArithmeticError", "OverflowError", "RuntimeError", "NotImplementedError", "AttributeError", "StopIteration",
    "NotImplemented", "print", "__name__",
}
METHODS = {
    "__init__", "__eq__", "__repr__", "__str__", "__len__", "__enter__", "__exit__", "__call__", "__iter__", "__lt__",
    "__le__", "__gt__", "__ge__", "__ne__", "__bool__", "__contains__", "__getitem__", "__setitem__",
}
BARRED_FILES = {
    "test", "tests", "testing", "site", "conftest", "sitecustomize", "usercustomize", "heapq", "math", "itertools",
}
BARRED_BEGINNINGS = ("_wall", "_pe_", "_dcw_", "_enum_", "_cm_", "_twin_re_", "_lay_", "_law_", "_stub_", "_sre")
# Whoever runs examples leaves a _ among the builtins.
OF_PYTHON = set(dir(builtins)) - {"_"}
PLAIN_NAME = re.compile(r"[A-Za-z][A-Za-z0-9_]*$|_[A-Za-z][A-Za-z0-9_]*$|_$")


def check_package(folder):
    """All complaints about a package."""
    folder = Path(folder)
    sources = {path: path.read_bytes().decode("utf-8") for path in sorted(folder.rglob("*.py"))}
    found = check_files(folder)
    for path, text in sources.items():
        where = path.relative_to(folder.parent).as_posix()
        found = found + [f"{where}: {complaint}" for complaint in check_source(text, path.stem)]
    return found + check_imports(folder, sources)


def check_source(text, stem="plain"):
    """Complaints about one file."""
    found = check_layout(text)
    tree = ast.parse(text)
    found = found + check_functions(tree) + check_names(tree, stem) + check_words(text, tree) + check_builtins(tree, stem)
    return found + check_classes(tree) + check_stars(tree) + check_generators(tree)


# L10, L14: sizes and signs.

def check_layout(text):
    found = []
    lines = text.split("\n")
    if len(text.splitlines()) > 399:
        found.append("L10: more than 399 lines")
    for number, line in enumerate(lines, start=1):
        if len(line) > 120:
            found.append(f"L10: line {number} has more than 120 characters")
        if "\t" in line:
            found.append(f"L10: line {number} has a tab")
        if any(not " " <= sign <= "~" for sign in line if sign != "\t"):
            found.append(f"L14: line {number} has a sign that is not from the space to ~")
    return found


def check_functions(tree):
    return [f"L10: {node.name} has more than 40 lines" for node in ast.walk(tree)
            if isinstance(node, ast.FunctionDef) and node.end_lineno - node.lineno + 1 > 40]


# L1, L14: files and folders.

def check_files(folder):
    found = []
    paths = [path for path in sorted(folder.rglob("*")) if "__pycache__" not in path.parts]
    folders = [folder] + [path for path in paths if path.is_dir()]
    for path in paths:
        if path.is_file() and path.suffix != ".py":
            found.append(f"L1: {path.name} is no .py file")
    for path in folders:
        if not (path / "__init__.py").is_file():
            found.append(f"L14: {path.name} has no __init__.py")
        if path.with_suffix(".py").exists():
            found.append(f"L14: {path.name} is a folder and a file")
    for path in folders[1:] + [path for path in paths if path.is_file()]:
        found = found + check_file_name(path, folder)
    if len([path for path in paths if path.is_file()]) > 100:
        found.append("L14: more than 100 files")
    if folder.name in sys.stdlib_module_names:
        found.append(f"L14: {folder.name} is a module of the standard library")
    return found


def check_file_name(path, folder):
    stem = path.stem
    if stem == "__init__" or (stem == "__main__" and path.parent == folder):
        return []
    if re.fullmatch(r"[a-z][a-z0-9_]*", stem) is None:
        return [f"L14: {path.name} is no plain lower-case name"]
    barred = BARRED_FILES | NOWHERE | BARRED_WORDS | set(BARRED_PARTS) | {"type"} | OF_PYTHON
    if stem in barred or stem.startswith(("law_", "test_")) or FRAMES.match(stem):
        return [f"L14: no file may be called {path.name}"]
    return []


# L2, L16: imports.

def module_name(folder, path):
    parts = path.relative_to(folder.parent).with_suffix("").parts
    return ".".join(parts[:-1] if parts[-1] == "__init__" else parts)


def check_imports(folder, sources):
    modules = {module_name(folder, path): ast.parse(text) for path, text in sources.items()}
    defined = {name: own_names(tree) for name, tree in modules.items()}
    found = []
    needs = {}
    for path, text in sources.items():
        name = module_name(folder, path)
        needs[name] = []
        found = found + check_init(folder, path, ast.parse(text))
        for node, is_top in imports_of(ast.parse(text)):
            if not is_top:
                found.append(f"L2: {name}: the import in line {node.lineno} does not stand at the top")
            found = found + [f"{complaint} ({name}, line {node.lineno})"
                             for complaint in check_import(node, folder.name, path.stem, defined)]
            needs[name].append(getattr(node, "module", None))
    return found + check_circles(needs)


def own_names(tree):
    """The names that a file itself defines, without its imports."""
    found = [node.name for node in tree.body if isinstance(node, (ast.FunctionDef, ast.ClassDef))]
    for node in tree.body:
        for target in targets_of(node):
            found.append(target)
    return found


def targets_of(node):
    if isinstance(node, ast.Assign):
        return [target.id for target in node.targets if isinstance(target, ast.Name)]
    if isinstance(node, ast.AnnAssign) and isinstance(node.target, ast.Name):
        return [node.target.id]
    return []


def imports_of(tree):
    """All imports of a file, and whether each stands at its top."""
    top = []
    for at, node in enumerate(tree.body):
        is_docstring = at == 0 and isinstance(node, ast.Expr) and isinstance(node.value, ast.Constant)
        if isinstance(node, (ast.Import, ast.ImportFrom)):
            top.append(node)
        elif not is_docstring:
            break
    return [(node, node in top) for node in ast.walk(tree) if isinstance(node, (ast.Import, ast.ImportFrom))]


def check_import(node, package, stem, defined):
    if isinstance(node, ast.Import):
        is_sys = stem == "__main__" and [(item.name, item.asname) for item in node.names] == [("sys", None)]
        return [] if is_sys else ["L16: an import without from"]
    if node.level > 0 or any(item.name == "*" for item in node.names):
        return ["L2: a leading dot or a star"]
    if node.module in LIBRARY:
        wrong = [item.name for item in node.names if item.name not in LIBRARY[node.module] or item.asname]
        return [f"L2: {node.module}.{name}" for name in wrong]
    if node.module not in defined or node.module.endswith("__main__"):
        return [f"L2: {node.module} is no module of the package"]
    return [f"L16: {item.name} is not defined in {node.module}" for item in node.names
            if item.name not in defined[node.module]]


def check_init(folder, path, tree):
    """An __init__.py binds no name that one of its files has."""
    if path.stem != "__init__":
        return []
    files = [other.stem for other in path.parent.iterdir() if other != path]
    bound = own_names(tree)
    for node, _ in imports_of(tree):
        for item in node.names:
            name = item.asname or item.name
            if getattr(node, "module", None) != f"{module_name(folder, path)}.{name}":
                bound.append(name)
    return [f"L16: {module_name(folder, path)} binds {name}, a file's name" for name in bound if name in files]


def check_circles(needs):
    """Modules that import each other; each __init__.py above an imported file counts as imported, too."""
    reach = {}
    for name, modules in needs.items():
        own = {module for module in modules if module in needs}
        reach[name] = own | (set().union(*[folders_above(module) for module in own]) - {name})
    for _ in needs:
        reach = {name: near.union(*[reach.get(other, set()) for other in near]) for name, near in reach.items()}
    return [f"L16: {name} imports itself through other files" for name in sorted(needs) if name in reach[name]]


def folders_above(module):
    parts = module.split(".")
    return {".".join(parts[:count]) for count in range(1, len(parts))}


# L8, L12, L15, L17: names and words.

def bound_names(tree):
    """Tuples (name, line) of all names of variables, functions, classes, imports, parameters and caught errors."""
    found = []
    for node in ast.walk(tree):
        if isinstance(node, (ast.FunctionDef, ast.ClassDef)):
            found.append((node.name, node.lineno))
        elif isinstance(node, ast.arg):
            found.append((node.arg, node.lineno))
        elif isinstance(node, ast.Name) and isinstance(node.ctx, ast.Store):
            found.append((node.id, node.lineno))
        elif isinstance(node, (ast.MatchAs, ast.MatchStar, ast.ExceptHandler)) and node.name:
            found.append((node.name, node.lineno))
        elif isinstance(node, (ast.Import, ast.ImportFrom)):
            found = found + [(item.asname or item.name, node.lineno) for item in node.names]
    return found


def all_names(tree):
    """Tuples (name, line) of all names, also those of attributes and keywords."""
    found = bound_names(tree)
    for node in ast.walk(tree):
        if isinstance(node, ast.Name):
            found.append((node.id, node.lineno))
        elif isinstance(node, ast.Attribute):
            found.append((node.attr, node.lineno))
        elif isinstance(node, ast.keyword) and node.arg:
            found.append((node.arg, node.value.lineno))
    return found


def check_names(tree, stem):
    found = []
    methods = [item for node in ast.walk(tree) if isinstance(node, ast.ClassDef)
               for item in node.body if isinstance(item, ast.FunctionDef)]
    method_places = [(item.name, item.lineno) for item in methods]
    for name, line in all_names(tree):
        if name in NOWHERE or FRAMES.match(name):
            found.append(f"L17: line {line}: {name}")
        is_double = name.startswith("__") and name.endswith("__")
        if not is_double and (PLAIN_NAME.match(name) is None or name.startswith(BARRED_BEGINNINGS)):
            found.append(f"L12: line {line}: {name}")
    for name, line in bound_names(tree):
        if name in NOT_NAMES or (name == "sys" and stem != "__main__"):
            found.append(f"L17: line {line}: {name}")
        is_method = (name, line) in method_places
        if name in OF_PYTHON and not is_method and not name.startswith("__"):
            found.append(f"L15: line {line}: {name} is a builtin")
        if is_method and name in BUILTINS and not name.startswith("__"):
            found.append(f"L8: line {line}: {name} is a builtin")
    return found + check_bindings(tree)


def check_bindings(tree):
    """A name is bound once at module level, and no local name is that of an import or a class."""
    imported = [item.asname or item.name for node, _ in imports_of(tree) for item in node.names]
    classes = [node.name for node in tree.body if isinstance(node, ast.ClassDef)]
    top = own_names(tree) + imported
    found = [f"L15: {name} is bound twice" for name in sorted(set(top)) if top.count(name) > 1]
    for function in [node for node in ast.walk(tree) if isinstance(node, ast.FunctionDef)]:
        inner = ast.Module(body=function.body, type_ignores=[])
        local = bound_names(inner) + bound_names(function.args)
        found = found + [f"L15: line {line}: {name} is an import or a class" for name, line in local
                         if name in imported + classes]
    return found


def docstrings(tree):
    """The first lines of all docstrings."""
    found = []
    for node in ast.walk(tree):
        if isinstance(node, (ast.Module, ast.ClassDef, ast.FunctionDef)) and ast.get_docstring(node) is not None:
            found.append(node.body[0].lineno)
    return found


def check_words(text, tree):
    """Words that stand neither in names nor in strings; comments and docstrings are free."""
    found = []
    free = docstrings(tree)
    tokens = list(tokenize.generate_tokens(io.StringIO(text).readline))
    for at, token in enumerate(tokens):
        is_docstring = token.type == tokenize.STRING and token.start[0] in free and token.line.lstrip().startswith(
            ('"', "'", "r"))
        if token.type == tokenize.COMMENT or is_docstring:
            continue
        words = re.findall(r"[A-Za-z0-9_]+", token.string)
        barred = [word for word in words if word in BARRED_WORDS]
        barred = barred + [part for part in BARRED_PARTS if part in token.string]
        if token.type == tokenize.NAME and token.string == "type" and tokens[at + 1].string != "(":
            barred.append("type")
        found = found + [f"L17: line {token.start[0]}: {word}" for word in barred]
    return found


def check_builtins(tree, stem):
    """Names of Python's own that are read, numbers with a point, and the sign for division."""
    found = []
    for node in ast.walk(tree):
        if isinstance(node, ast.Name) and isinstance(node.ctx, ast.Load) and node.id in OF_PYTHON:
            if node.id not in BUILTINS or (node.id in ("print", "__name__") and stem != "__main__"):
                found.append(f"L8: line {node.lineno}: {node.id}")
        if isinstance(node, ast.Constant) and isinstance(node.value, (float, complex)):
            found.append(f"L7: line {node.lineno}: a number with a point")
        if isinstance(node, (ast.BinOp, ast.AugAssign)) and isinstance(node.op, (ast.Div, ast.MatMult)):
            found.append(f"L7: line {node.lineno}: a division with a point")
        if isinstance(node, (ast.AsyncFunctionDef, ast.Await, ast.AsyncFor, ast.AsyncWith)):
            found.append(f"L6: line {node.lineno}: async")
    return found


# L4, L5: decorators and methods of classes.

def check_classes(tree):
    found = []
    for node in ast.walk(tree):
        if isinstance(node, ast.FunctionDef):
            found = found + [f"L4: line {item.lineno}: a decorator" for item in node.decorator_list
                             if not is_plain_decorator(item)]
        if isinstance(node, ast.ClassDef):
            if node.decorator_list:
                found.append(f"L5: line {node.lineno}: a decorator over a class")
            for item in node.body:
                if isinstance(item, ast.FunctionDef) and item.name.startswith("__") and item.name not in METHODS:
                    found.append(f"L5: line {item.lineno}: {item.name}")
    return found


def is_plain_decorator(node):
    if isinstance(node, ast.Name):
        return node.id in ("property", "staticmethod", "classmethod")
    return isinstance(node, ast.Attribute) and node.attr == "setter"


# L7: stars in calls, and generator expressions.

def check_stars(tree):
    found = []
    for node in ast.walk(tree):
        if isinstance(node, ast.Call):
            behind = [item.value for item in node.args if isinstance(item, ast.Starred)]
            behind = behind + [item.value for item in node.keywords if item.arg is None]
            found = found + [f"L7: line {item.lineno}: what stands behind a star" for item in behind
                             if not isinstance(item, (ast.Name, ast.Attribute, ast.Constant, ast.List, ast.Tuple))]
    return found


def check_generators(tree):
    """A class of the package has an __eq__, so that these builtins take lists."""
    return [f"L7: line {node.lineno}: a generator expression in {node.func.id}" for node in ast.walk(tree)
            if isinstance(node, ast.Call) and isinstance(node.func, ast.Name)
            and node.func.id in ("any", "all", "min", "max", "sum", "sorted")
            and any(isinstance(item, ast.GeneratorExp) for item in node.args)]
