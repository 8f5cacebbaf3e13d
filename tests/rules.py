"""The rules of the language that a small script can look at.

Each function takes the files of a package, {name: text}, and returns the faults, as (rule, file, line).
"""

import ast
import builtins
import re
import sys

BUILTINS = set("""len range enumerate zip min max sum abs sorted reversed int str bool list tuple dict set isinstance
ord repr any all divmod iter next map Exception ValueError TypeError KeyError IndexError LookupError ZeroDivisionError
ArithmeticError OverflowError RuntimeError NotImplementedError AttributeError StopIteration NotImplemented""".split())
METHODS = set("""append clear copy count endswith extend find get index insert isalnum isalpha isdigit islower isspace
isupper items join keys ljust lower lstrip partition pop remove replace reverse rfind rjust rpartition rsplit rstrip
setdefault split splitlines startswith strip update upper values zfill bit_length title capitalize swapcase casefold
center expandtabs removeprefix removesuffix rindex isascii isdecimal isnumeric istitle isidentifier isprintable
translate add discard sort""".split())
NO_ATTRIBUTES = set("""items keys values pop update append clear extend insert remove reverse setdefault sort args encode
decode hex fromhex format format_map mro as_integer_ratio bit_count conjugate from_bytes is_integer to_bytes""".split())
MAY_BE_ATTRIBUTES = set("count index title find get join lower upper split strip copy add".split())
NOWHERE = set("register mro elements open input law version_info with_traceback add_note".split())
FRAMES = re.compile("(f|tb|co|gi|cr|ag)_[a-z]+")
NO_NAMES = set("""attrgetter breakpoint builtins compile copyright credits delattr dir eval exec exit gc getattr globals
hasattr help id importlib license locals methodcaller os quit setattr super type vars sys __name__""".split())
NO_WORDS = set("""type typing typing_extensions enum Enum IntEnum StrEnum Flag IntFlag Generic Protocol ABC ABCMeta
namedtuple NamedTuple TypedDict TYPE_CHECKING abstractmethod""".split())
NO_PARTS = ("dataclass", "overload", "contextmanager")
# An interactive Python, and doctest, put _ among the builtins.
PYTHONS_OWN = set(dir(builtins)) - {"_"}
LIBRARY = {"heapq": "heappush heappop heapify heapreplace heappushpop", "math": "gcd lcm isqrt comb perm factorial",
           "itertools": "product combinations permutations"}
DUNDERS = set("__init__ __eq__ __repr__ __str__ __len__ __enter__ __exit__ __call__ __iter__ __slots__".split())
PLAIN_NAME = re.compile("_?[A-Za-z][A-Za-z0-9_]*")
BARRED_BEGINNINGS = ("_wall", "_pe_", "_dcw_", "_enum_", "_cm_", "_twin_re_", "_lay_", "_law_", "_stub_", "_sre", "_WallAttr")
ITERATED = ("zip", "enumerate", "reversed")
TAKE_LISTS = ("any", "all", "min", "max", "sum", "sorted")
CAUGHT = {"KeyError", "ZeroDivisionError", "StopIteration", "ValueError", "LookupError", "IndexError"}


def trees(files):
    return {name: ast.parse(text) for name, text in files.items()}


def nodes(files):
    """(file, node, the nodes around it, innermost last) for each node of each file."""
    found = []
    for name, tree in trees(files).items():
        waiting = [(tree, ())]
        while waiting:
            node, around = waiting.pop()
            found.append((name, node, around))
            waiting += [(child, around + (node,)) for child in ast.iter_child_nodes(node)]
    return found


def line_of(node, around):
    return next((each.lineno for each in (node,) + around[::-1] if hasattr(each, "lineno")), 0)


def module_of(name, package):
    parts = [package] + name[:-len(".py")].split("/")
    return ".".join(parts[:-1] if parts[-1] == "__init__" else parts)


def sizes(files):
    faults = []
    for name, text in files.items():
        rows = text.split("\n")
        if len(rows) > 400 or text and not text.endswith("\n"):
            faults.append(("L10", name, len(rows)))
        for at, row in enumerate(rows):
            if len(row) > 120:
                faults.append(("L10", name, at + 1))
            if any(not " " <= sign <= "~" for sign in row):
                faults.append(("L14", name, at + 1))
    for name, node, _ in nodes(files):
        if isinstance(node, (ast.FunctionDef, ast.Lambda)) and node.end_lineno - node.lineno >= 40:
            faults.append(("L10", name, node.lineno))
    return faults


def file_names(files):
    faults = [("L14", "", 0)] if len(files) > 100 else []
    for name in files:
        parts = name[:-len(".py")].split("/")
        for part in parts:
            barred = part in NOWHERE | NO_NAMES | NO_WORDS | PYTHONS_OWN or part.startswith(("law_", "test_"))
            special = part == "__init__" or name == "__main__.py"
            if barred or part in ("test", "tests", "testing", "site", "conftest", "sitecustomize", "usercustomize",
                                  "heapq", "math", "itertools"):
                faults.append(("L14", name, 0))
            elif not special and not re.fullmatch("[a-z][a-z0-9_]*", part):
                faults.append(("L1", name, 0))
        if not name.endswith(".py") or "/".join(name.split("/")[:-1] + ["__init__.py"]) not in files:
            faults.append(("L1", name, 0))
    return faults


def defined(tree):
    """The names that a file itself defines at module level."""
    found = []
    for node in tree.body:
        if isinstance(node, (ast.FunctionDef, ast.ClassDef)):
            found.append(node.name)
        elif isinstance(node, ast.Assign):
            found += [target.id for target in node.targets if isinstance(target, ast.Name)]
    return found


def imported(tree):
    """(line, module, name, the name it gets, level) of each import; the module is "" for import x."""
    found = []
    for node in ast.walk(tree):
        if isinstance(node, ast.Import):
            found += [(node.lineno, "", each.name, each.asname or each.name, 0) for each in node.names]
        elif isinstance(node, ast.ImportFrom):
            found += [(node.lineno, node.module or "", each.name, each.asname or each.name, node.level)
                      for each in node.names]
    return found


def imports(files, package):
    faults, reaches = [], {}
    parsed = trees(files)
    modules = {module_of(name, package): name for name in files}
    for name, tree in parsed.items():
        used = {node.id for node in ast.walk(tree) if isinstance(node, ast.Name)}
        here = module_of(name, package)
        reaches[here] = set()
        for line, module, what, kept, level in imported(tree):
            if module == "__future__" and what == "annotations":
                continue
            if module in LIBRARY and what in LIBRARY[module].split() and kept == what:
                continue
            if module == "" and what == "sys" and name == "__main__.py":
                continue
            if module not in modules or level or what == "*" or modules[module] == "__main__.py":
                faults.append(("L2", name, line))
            elif what not in defined(parsed[modules[module]]):
                faults.append(("L16", name, line))
            else:
                parts = module.split(".")
                reaches[here] |= {".".join(parts[:k + 1]) for k in range(len(parts))}
            if kept not in used and name != "__init__.py":
                faults.append(("unused", name, line))
    faults += [("L16", module, 0) for module in reaches if comes_back(module, reaches)]
    return faults


def comes_back(module, reaches):
    seen, waiting = set(), list(reaches[module])
    while waiting:
        at = waiting.pop()
        if at not in seen:
            seen.add(at)
            waiting += list(reaches.get(at, ()))
    return module in seen


def module_level(files):
    faults = []
    for name, tree in trees(files).items():
        names = defined(tree) + [kept for _, _, _, kept, _ in imported(tree)]
        faults += [("L15", name, 0) for each in set(names) if names.count(each) > 1]
        body = tree.body
        if body and isinstance(body[0], ast.Expr) and isinstance(body[0].value, ast.Constant):
            body = body[1:]
        others = False
        for node in body:
            is_import = isinstance(node, (ast.Import, ast.ImportFrom))
            if is_import and others:
                faults.append(("L2", name, node.lineno))
            others = others or not is_import
            plain = isinstance(node, ast.Assign) and len(node.targets) == 1 and isinstance(node.targets[0], ast.Name)
            if not (is_import or plain or isinstance(node, (ast.FunctionDef, ast.ClassDef))) and name != "__main__.py":
                faults.append(("L3", name, node.lineno))
            if plain and any(isinstance(each, (ast.Call, ast.ListComp, ast.SetComp, ast.DictComp, ast.Set, ast.Lambda))
                             for each in ast.walk(node)):
                faults.append(("L3", name, node.lineno))
            functions = {each.name for each in body if isinstance(each, ast.FunctionDef) and each.lineno < node.lineno}
            if plain and any(isinstance(each, ast.Name) and each.id not in functions for each in ast.walk(node.value)):
                faults.append(("L3", name, node.lineno))
    return faults


def tables(files):
    """Lists and dicts of module level that are not just read where they stand."""
    kept = set()
    for name, tree in trees(files).items():
        kept |= {node.targets[0].id for node in tree.body if isinstance(node, ast.Assign) and isinstance(node.value, (ast.List, ast.Dict))
                 and isinstance(node.targets[0], ast.Name)}
    faults = []
    for name, node, around in nodes(files):
        if isinstance(node, ast.Name) and node.id in kept and isinstance(node.ctx, ast.Load):
            above = around[-1]
            read = isinstance(above, ast.Subscript) and above.value is node and isinstance(above.ctx, ast.Load)
            read = read or isinstance(above, ast.Compare) or isinstance(above, (ast.For, ast.comprehension)) and above.iter is node
            read = read or isinstance(above, ast.Attribute) and above.attr in ("get", "items", "keys", "values", "index", "count")
            if not read and called(above) not in ("len", "list", "dict", "tuple", "sorted", "any", "all", "min", "max", "sum"):
                faults.append(("L15", name, node.lineno))
    return faults


def bound_names(node):
    """(name, kind) of what a node binds."""
    if isinstance(node, (ast.FunctionDef, ast.ClassDef)):
        return [(node.name, "defined")]
    if isinstance(node, ast.arg):
        return [(node.arg, "variable")]
    if isinstance(node, ast.Name) and not isinstance(node.ctx, ast.Load):
        return [(node.id, "variable")]
    if isinstance(node, ast.ExceptHandler) and node.name:
        return [(node.name, "variable")]
    if isinstance(node, ast.Attribute) and isinstance(node.ctx, ast.Store):
        return [(node.attr, "attribute")]
    if isinstance(node, ast.keyword) and node.arg:
        return [(node.arg, "keyword")]
    return []


def names(files):
    faults = []
    outer = {}
    for name, tree in trees(files).items():
        classes = {node.name for node in tree.body if isinstance(node, ast.ClassDef)}
        outer[name] = classes | {kept for _, _, _, kept, _ in imported(tree)}
    for name, node, around in nodes(files):
        line = line_of(node, around)
        is_method = isinstance(node, ast.FunctionDef) and isinstance(around[-1], ast.ClassDef)
        for each, kind in bound_names(node):
            faults += [(rule, name, line) for rule in name_faults(each, kind, is_method)]
            if kind == "variable" and each in outer[name] and not isinstance(around[-2], ast.Module):
                faults.append(("L15", name, line))
        if isinstance(node, ast.Name) and node.id == "_" and isinstance(node.ctx, ast.Load):
            faults.append(("L12", name, line))
        if isinstance(node, ast.Attribute) and (node.attr in NOWHERE | {"__class__", "format", "format_map"}
                                                or FRAMES.fullmatch(node.attr)):
            faults.append(("L17", name, line))
    return faults


def name_faults(name, kind, is_method):
    faults = []
    if name.startswith("__"):
        if not (is_method and name in DUNDERS) and name not in ("__all__", "__version__"):
            faults.append("L8")
    elif name != "_" and not PLAIN_NAME.fullmatch(name):
        faults.append("L12")
    if name.startswith(BARRED_BEGINNINGS) and kind != "attribute" and not is_method:
        faults.append("L12")
    if name in NOWHERE or FRAMES.fullmatch(name):
        faults.append("L17")
    if name in NO_NAMES and kind not in ("attribute", "keyword"):
        faults.append("L17")
    if kind in ("variable", "defined") and name in PYTHONS_OWN and not is_method and not name.startswith("__"):
        faults.append("L15")
    if is_method and name in BUILTINS:
        faults.append("L8")
    if kind == "attribute" and name not in MAY_BE_ATTRIBUTES and (name in NO_ATTRIBUTES or name in METHODS):
        faults.append("L26")
    return faults


def words(files):
    """Barred words in the code, docstrings and comments left out."""
    faults = []
    for name, text in files.items():
        code = ast.unparse(without_docstrings(ast.parse(text)))
        found = set(re.findall("[A-Za-z_0-9]+", code))
        faults += [("L17", name, 0) for _ in found & NO_WORDS]
        faults += [("L17", name, 0) for part in NO_PARTS if part in code]
        if re.search("_wall|_WallAttr", text):
            faults.append(("L12", name, 0))
    return faults


def without_docstrings(tree):
    for node in ast.walk(tree):
        body = getattr(node, "body", None)
        if isinstance(body, list) and body and isinstance(body[0], ast.Expr) and isinstance(body[0].value, ast.Constant):
            node.body = body[1:] or [ast.Pass()]
    return tree


def strings(files):
    faults = []
    for name, node, around in nodes(files):
        if isinstance(node, ast.Constant) and isinstance(node.value, str):
            line, text = line_of(node, around), node.value
            odd = re.fullmatch("__.*__", text, re.DOTALL) and text != "__main__"
            if "%" in text or text.endswith(("._", ".__")) or odd or FRAMES.fullmatch(text):
                faults.append(("L27", name, line))
            if ("{" in text or "." in text and " " not in text) and re.search(r"\b__|\bf_code", text):
                faults.append(("L27", name, line))
        if isinstance(node, ast.Constant) and isinstance(node.value, (float, complex)):
            faults.append(("L7", name, line_of(node, around)))
    for name, text in files.items():
        for at, row in enumerate(text.split("\n")):
            if re.search(r"\\[^nt\\'\"]|\\$", row):
                faults.append(("L27", name, at + 1))
    return faults


def statements(files):
    barred = (ast.Global, ast.AsyncFunctionDef, ast.AsyncFor, ast.AsyncWith, ast.Await, ast.Div, ast.MatMult,
              getattr(ast, "TryStar", ast.Global))
    faults = []
    for name, node, around in nodes(files):
        line = line_of(node, around)
        if isinstance(node, barred):
            faults.append(("L6", name, line))
        if isinstance(node, ast.ExceptHandler):
            caught = node.type.elts if isinstance(node.type, ast.Tuple) else [node.type]
            for each in caught:
                if not isinstance(each, ast.Name) or each.id in PYTHONS_OWN and each.id not in CAUGHT:
                    faults.append(("L19", name, line))
        if isinstance(node, ast.Raise) and node.exc is not None and not (
                isinstance(node.exc, ast.Call) and isinstance(node.exc.func, ast.Name)):
            faults.append(("L19", name, line))
        if isinstance(node, ast.Compare) and any(isinstance(op, (ast.Is, ast.IsNot)) for op in node.ops):
            if not any(isinstance(side, ast.Constant) for side in [node.left] + node.comparators):
                faults.append(("L20", name, line))
        if isinstance(node, (ast.FunctionDef, ast.ClassDef)):
            kept = {ast.unparse(each) for each in node.decorator_list} - {"property", "staticmethod", "classmethod"}
            if any(not each.endswith(".setter") for each in kept) or isinstance(node, ast.ClassDef) and node.decorator_list:
                faults.append(("L4", name, line))
        if isinstance(node, ast.FunctionDef) and node.name == "__init__":
            if any(isinstance(each, ast.Return) for each in ast.walk(node)):
                faults.append(("L28", name, line))
        if isinstance(node, ast.Pow) or isinstance(node, ast.Constant) and isinstance(node.value, bytes):
            faults.append(("not used", name, line))
    return faults


def classes(files):
    """Names that are a method and an attribute in one class, defaults that are no plain values, rows of __exit__ and __eq__."""
    faults = []
    alone = not {"__eq__", "__len__"} & own_methods(files)
    for name, node, around in nodes(files):
        if isinstance(node, ast.ClassDef):
            methods = [each.name for each in node.body if isinstance(each, ast.FunctionDef)]
            stored = {each.attr for each in ast.walk(node) if isinstance(each, ast.Attribute) and isinstance(each.ctx, ast.Store)
                      and isinstance(each.value, ast.Name) and each.value.id == "self"}
            faults += [("L18", name, node.lineno) for _ in stored & set(methods)]
            faults += [("L18", name, node.lineno) for each in set(methods) if methods.count(each) > 1]
        if isinstance(node, ast.FunctionDef):
            defaults = node.args.defaults + [each for each in node.args.kw_defaults if each is not None]
            if any(not isinstance(part, (ast.Constant, ast.Tuple, ast.UnaryOp, ast.USub, ast.Load))
                   for each in defaults for part in ast.walk(each)):
                faults.append(("L4", name, node.lineno))
            rows = node.body[1:] if ast.get_docstring(node) else node.body
            if node.name == "__exit__" and not all(exit_row_right(row, node.args, alone) for row in rows):
                faults.append(("L6", name, node.lineno))
            if node.name in ("__eq__", "__len__", "__repr__", "__str__") and any(
                    isinstance(each, (ast.Assign, ast.AugAssign, ast.Delete)) for each in ast.walk(node)):
                faults.append(("L28", name, node.lineno))
        if isinstance(node, ast.With) and not all(isinstance(each.context_expr, (ast.Call, ast.Name, ast.Attribute))
                                                  for each in node.items):
            faults.append(("L6", name, node.lineno))
    return faults


def is_path(node):
    """Whether a node is a name, or an attribute of an attribute .. of a name."""
    while isinstance(node, ast.Attribute):
        node = node.value
    return isinstance(node, ast.Name)


def exit_row_right(row, args, alone):
    """Whether a row may stand in __exit__, as far as such rows are needed here.

    alone: whether an if may ask a name or an attribute alone, as no class has an __eq__ or a __len__.
    """
    barred = {each.arg for each in args.args[2:]}
    if any(isinstance(each, ast.Name) and each.id in barred for each in ast.walk(row)):
        return False
    if isinstance(row, ast.Return):
        return row.value is None or isinstance(row.value, ast.Constant) and row.value.value in (None, False)
    if isinstance(row, ast.Assign):
        return all(isinstance(each, ast.Attribute) and is_path(each) for each in row.targets) and (
            is_path(row.value) or isinstance(row.value, ast.Constant))
    if isinstance(row, ast.If):
        return exit_test_right(row.test, args.args[1].arg, alone) and all(
            exit_row_right(each, args, alone) for each in row.body + row.orelse)
    return isinstance(row, ast.Pass)


def exit_test_right(test, kind, alone):
    """Whether an if in __exit__ may ask this: kind by `is None` and `is not None`, all else by `is None`, or alone."""
    if isinstance(test, ast.BoolOp):
        return all(exit_test_right(each, kind, alone) for each in test.values)
    if isinstance(test, ast.UnaryOp):
        return isinstance(test.op, ast.Not) and exit_test_right(test.operand, kind, alone)
    if isinstance(test, ast.Compare):
        none = isinstance(test.comparators[0], ast.Constant) and test.comparators[0].value is None
        ways = (ast.Is, ast.IsNot) if isinstance(test.left, ast.Name) and test.left.id == kind else ast.Is
        return len(test.ops) == 1 and isinstance(test.ops[0], ways) and none and is_path(test.left)
    return alone and is_path(test) and not (isinstance(test, ast.Name) and test.id == kind)


def own_methods(files):
    return {node.name for _, node, around in nodes(files)
            if isinstance(node, ast.FunctionDef) and isinstance(around[-1], ast.ClassDef)}


def called(node):
    """The name of the function that a node calls, or an empty string."""
    return node.func.id if isinstance(node, ast.Call) and isinstance(node.func, ast.Name) else ""


def calls(files):
    faults = []
    own = own_methods(files)
    stored = {each for _, node, _ in nodes(files) for each, kind in bound_names(node) if kind == "attribute"}
    known = {name: file_bound(tree) for name, tree in trees(files).items()}
    for name, node, around in nodes(files):
        line = line_of(node, around)
        if isinstance(node, ast.Name) and isinstance(node.ctx, ast.Load) and node.id not in known[name]:
            if node.id not in BUILTINS and not (name == "__main__.py" and node.id in ("print", "__name__")):
                faults.append(("L8", name, line))
        if isinstance(node, ast.Attribute) and isinstance(node.ctx, ast.Load) and node.attr not in own | stored | METHODS:
            if node.attr not in DUNDERS and name != "__main__.py":
                faults.append(("L18", name, line))
        if isinstance(node, ast.Attribute) and isinstance(node.ctx, ast.Load) and node.attr in own - stored:
            if not (isinstance(around[-1], ast.Call) and around[-1].func is node or isinstance(around[-1], ast.keyword)):
                faults.append(("L25", name, line))
        if isinstance(node, ast.Call):
            faults += [(rule, name, line) for rule in call_faults(node, around, own, known[name])]
    return faults


def file_bound(tree):
    kept = {name for _, _, _, name, _ in imported(tree)}
    return kept | {each for node in ast.walk(tree) for each, kind in bound_names(node) if kind in ("defined", "variable")}


def call_faults(node, around, own, known):
    faults = []
    if isinstance(node.func, ast.Attribute) and node.func.attr not in own | METHODS:
        faults.append("L25")
    if isinstance(node.func, ast.Attribute) and node.func.attr in METHODS - own and node.keywords and node.func.attr != "sort":
        faults.append("L25")
    word = called(node)
    if word in BUILTINS and word not in known:
        allowed = {"sorted": ("key", "reverse"), "min": ("key", "default"), "max": ("key", "default"), "sum": ("start",),
                   "enumerate": ("start",), "zip": ("strict",)}.get(word, ())
        if any(each.arg not in allowed for each in node.keywords):
            faults.append("L22")
    if word in ("chr", "frozenset", "print", "bytes", "bytearray"):
        faults.append("L8")
    if isinstance(node.func, (ast.Subscript, ast.Constant)):
        faults.append("L3")
    if any(isinstance(each, ast.Starred) for each in node.args) and not stars_right(node):
        faults.append("L7")
    return faults


def stars_right(node):
    """Whether behind the first star of a call stand only names, attributes, literals, and lists and tuples of these."""
    first = next(k for k, each in enumerate(node.args) if isinstance(each, ast.Starred))
    behind = node.args[first:] + [each.value for each in node.keywords]
    plain = (ast.Starred, ast.Name, ast.Attribute, ast.Constant, ast.List, ast.Tuple, ast.expr_context)
    return all(isinstance(part, plain) for each in behind for part in ast.walk(each))


def iterations(files):
    """zip, enumerate, reversed, views and sets that are not used on the spot, and generator expressions."""
    faults = []
    takers = ("list", "tuple", "dict", "sorted", "sum", "any", "all", "enumerate", "zip", "min", "max")
    for name, node, around in nodes(files):
        above = around[-1] if around else None
        in_loop = isinstance(above, (ast.For, ast.comprehension)) and above.iter is node
        is_view = (isinstance(node, ast.Call) and isinstance(node.func, ast.Attribute)
                   and node.func.attr in ("items", "keys", "values"))
        if called(node) in ITERATED or is_view:
            if not in_loop and called(above) not in takers and not (is_view and called(above) == "len"):
                faults.append(("L23", name, node.lineno))
        if isinstance(node, (ast.SetComp, ast.Set)) or called(node) == "set":
            compared = isinstance(above, ast.Compare) or isinstance(above, ast.BinOp)
            assigned = isinstance(above, ast.Assign) and isinstance(above.targets[0], ast.Name)
            if not compared and not assigned and called(above) not in ("sorted", "len"):
                faults.append(("L24", name, node.lineno))
        if isinstance(node, ast.GeneratorExp) and called(above) in TAKE_LISTS + ("",):
            joined = isinstance(above, ast.Call) and isinstance(above.func, ast.Attribute) and above.func.attr == "join"
            if not joined:
                faults.append(("L7", name, node.lineno))
    return faults


def generators(files):
    """Functions that yield: under no try and no with, with a name that no other function has, called in loops and the like."""
    faults, defined_names, yielding = [], [], set()
    for name, node, around in nodes(files):
        if isinstance(node, ast.FunctionDef):
            defined_names.append(node.name)
        if isinstance(node, (ast.Yield, ast.YieldFrom)):
            inner = [each for each in around if isinstance(each, ast.FunctionDef)][-1]
            yielding.add(inner.name)
            if any(isinstance(each, (ast.Try, ast.With)) for each in around) or not isinstance(around[-1], ast.Expr):
                faults.append(("L23", name, node.lineno))
    takers = ("list", "tuple", "dict", "sorted", "sum", "any", "all", "enumerate", "min", "max")
    for name, node, around in nodes(files):
        if isinstance(node, ast.FunctionDef) and node.name in yielding and defined_names.count(node.name) > 1:
            faults.append(("L23", name, node.lineno))
        if isinstance(node, ast.Name) and node.id in yielding:
            call, above = around[-1], around[-2]
            looped = isinstance(above, (ast.For, ast.comprehension)) and above.iter is call or isinstance(above, ast.YieldFrom)
            if not (isinstance(call, ast.Call) and call.func is node) or not (looped or called(above) in takers):
                faults.append(("L23", name, node.lineno))
    return faults


def faults_of(files, package):
    looks = (sizes, file_names, module_level, tables, names, words, strings, statements, classes, calls, iterations,
             generators)
    found = [fault for look in looks for fault in look(files)]
    return found + imports(files, package)


def version_warnings(files):
    """The files for which Python itself has a warning."""
    import warnings
    found = []
    for name, text in files.items():
        with warnings.catch_warnings(record=True) as told:
            warnings.simplefilter("always")
            compile(text, name, "exec", dont_inherit=True)
        found += [(name, str(each.message)) for each in told]
    return found


def is_library_name(name):
    return name in sys.stdlib_module_names
