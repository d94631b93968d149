"""Looks for what ../shared/LANGUAGE.md does not allow in the files of the package.

It is narrower than the rules where that is simpler (no annotations, no generator expressions, no `match`), and it
cannot see everything that they say. Each find is a tuple (file, line, rule, words).
"""

import ast
import builtins
import re
from pathlib import Path

PACKAGE = Path(__file__).resolve().parent.parent / "handcarried"

LIBRARY = {
    "heapq": {"heappush", "heappop", "heapify", "heapreplace", "heappushpop"},
    "math": {"gcd", "lcm", "isqrt", "comb", "perm", "factorial"},
    "itertools": {"chain", "accumulate", "pairwise", "islice", "zip_longest"},
    "collections": {"defaultdict", "deque"},
}

BUILTINS = set("""len range enumerate zip min max sum abs sorted reversed int str bool bytes list tuple dict set
    isinstance ord repr any all divmod pow getattr hasattr setattr type iter next map super property staticmethod
    classmethod Exception ValueError TypeError KeyError IndexError LookupError ZeroDivisionError ArithmeticError
    OverflowError RuntimeError NotImplementedError AttributeError StopIteration NotImplemented True False
    None""".split())

METHODS = set("""append clear copy count endswith extend find get index insert isalnum isalpha isdigit islower isspace
    isupper items join keys ljust lower lstrip partition pop remove replace reverse rfind rjust rpartition rsplit
    rstrip setdefault split splitlines startswith strip update upper values zfill bit_length removeprefix
    removesuffix""".split())

CHANGING = set("append clear extend insert pop remove reverse setdefault update add discard sort".split())

SPECIAL = set("""__init__ __eq__ __repr__ __str__ __len__ __enter__ __exit__ __call__ __iter__ __lt__ __le__ __gt__
    __ge__ __ne__ __add__ __sub__ __mul__ __and__ __or__ __xor__ __neg__ __invert__ __abs__ __bool__ __contains__
    __getitem__ __setitem__""".split())

# What an operator runs changes nothing that it did not create; `__init__` gives its own object its attributes.
STILL = SPECIAL - {"__init__", "__enter__", "__exit__", "__call__", "__iter__", "__setitem__"}

BARRED_NAMES = set("""register mro elements open input law version_info with_traceback add_note compile eval exec
    globals locals vars dir id hash exit quit help license credits copyright breakpoint os sys gc delattr""".split())

BARRED_WORDS = re.compile(r"\b(typing|typing_extensions|enum|Enum|IntEnum|StrEnum|Flag|IntFlag|Generic|Protocol|ABC|"
                          r"ABCMeta|namedtuple|NamedTuple|TypedDict|TYPE_CHECKING|abstractmethod)\b")
BARRED_ANYWHERE = re.compile(r"\(type\)|Meta|metaclass=|dataclass|overload|contextmanager|_wall|_WallAttr")

VIEWS = {"zip", "enumerate", "reversed", "range", "map"}
EATERS = {"list", "tuple", "dict", "sorted", "sum", "any", "all", "enumerate", "zip", "min", "max", "reversed", "len"}

STATEMENTS = (ast.Assign, ast.AugAssign, ast.If, ast.While, ast.For, ast.Return, ast.Break, ast.Continue, ast.Pass,
              ast.Raise, ast.Assert, ast.Delete, ast.Nonlocal, ast.With, ast.Try, ast.Expr, ast.FunctionDef)

BARRED_NODES = {
    ast.GeneratorExp: "L7 a generator expression", ast.Lambda: "L4 a lambda", ast.AsyncFunctionDef: "L6 async",
    ast.Global: "L6 global", ast.Match: "L6 match", ast.AnnAssign: "L21 an annotation", ast.Await: "L6 await",
    ast.Div: "L7 a float", ast.MatMult: "L7 a sign", ast.Pow: "L27 an exponent", ast.Import: "L16 an import",
}


def sources():
    """The name, the text and the tree of each file of the package."""
    out = []
    for path in sorted(PACKAGE.iterdir()):
        if path.suffix == ".py":
            text = path.read_text(encoding="utf-8")
            out.append((path.name, text, ast.parse(text)))
    return out


def parents_of(tree):
    return {child: node for node in ast.walk(tree) for child in ast.iter_child_nodes(node)}


def finds():
    """Everything that was found in the package."""
    files = sources()
    out = [(path.name, 0, "L1", "no file of the language") for path in PACKAGE.iterdir()
           if path.name != "__pycache__" and not re.fullmatch(r"[a-z0-9_]+\.py", path.name)]
    for name, text, tree in files:
        out += [(name, *row) for row in looks(text) + heads(tree) + nodes(tree) + names(tree)]
    out += imports(files) + runs(files)
    return sorted(out)


def looks(text):
    """L10, L12, L14, L17, L27: lines, characters and words."""
    out = []
    lines = text.split("\n")
    if len(lines) - 1 > 399:
        out.append((0, "L10", "a file of more than 399 lines"))
    for number, line in enumerate(lines, 1):
        if len(line) > 120:
            out.append((number, "L10", "a long line"))
        if any(not " " <= character <= "~" for character in line):
            out.append((number, "L14", "a character"))
        if BARRED_ANYWHERE.search(line):
            out.append((number, "L17", "a barred word"))
        if BARRED_WORDS.search(line):
            out.append((number, "L17", "a barred word"))
    return out


def heads(tree):
    """L3, L4, L5, L10, L15: what stands at module level and in classes, and how functions begin."""
    out = []
    bound = []
    for at, node in enumerate(tree.body):
        if isinstance(node, ast.Expr) and at == 0 and isinstance(node.value, ast.Constant):
            continue
        if isinstance(node, ast.ImportFrom):
            bound += [alias.name for alias in node.names]
        elif isinstance(node, (ast.FunctionDef, ast.ClassDef)):
            bound.append(node.name)
        elif isinstance(node, ast.Assign) and len(node.targets) == 1 and isinstance(node.targets[0], ast.Name):
            bound.append(node.targets[0].id)
            if any(isinstance(part, (ast.Call, ast.ListComp, ast.DictComp)) for part in ast.walk(node.value)):
                out.append((node.lineno, "L3", "no plain value"))
        else:
            out.append((node.lineno, "L3", "a statement at module level"))
    out += [(0, "L15", f"{name} is bound twice") for name in set(bound) if bound.count(name) > 1]
    for node in ast.walk(tree):
        if isinstance(node, ast.FunctionDef):
            out += function_heads(node)
        if isinstance(node, ast.ClassDef):
            if node.decorator_list or node.keywords:
                out.append((node.lineno, "L5", "a decorator over a class"))
            for part in node.body[1:] if ast.get_docstring(node) is not None else node.body:
                if not isinstance(part, ast.FunctionDef):
                    out.append((part.lineno, "L5", "a class value"))
    inner = {name for node in ast.walk(tree) for name in local_names(node)}
    out += [(0, "L15", f"{name} is local and imported or a class") for name in sorted(inner & set(shut(tree)))]
    return out


def shut(tree):
    """The names of the classes and imports of a file."""
    for node in tree.body:
        if isinstance(node, ast.ImportFrom):
            yield from [alias.name for alias in node.names]
        if isinstance(node, ast.ClassDef):
            yield node.name


def local_names(node):
    if not isinstance(node, ast.FunctionDef):
        return []
    parameters = [each.arg for each in ast.walk(node) if isinstance(each, ast.arg)]
    return parameters + [each.id for each in ast.walk(node)
                         if isinstance(each, ast.Name) and isinstance(each.ctx, ast.Store)]


def function_heads(node):
    out = []
    if node.end_lineno - node.lineno + 1 > 40:
        out.append((node.lineno, "L10", "a function of more than 40 lines"))
    for decorator in node.decorator_list:
        if not (isinstance(decorator, ast.Name) and decorator.id in ("property", "classmethod", "staticmethod")):
            out.append((node.lineno, "L4", "a decorator"))
    if node.returns is not None or any(each.annotation is not None for each in node.args.args + node.args.kwonlyargs):
        out.append((node.lineno, "L21", "an annotation"))
    for value in node.args.defaults + node.args.kw_defaults:
        if value is not None and not isinstance(value, (ast.Constant, ast.Tuple)):
            out.append((node.lineno, "L4", "a default value"))
    if node.name.startswith("__") and node.name not in SPECIAL:
        out.append((node.lineno, "L5", "a double-underscore method"))
    if node.name in ("__len__", "__bool__") and not isinstance(node.body[-1], ast.Return):
        out.append((node.lineno, "L28", "no return at the end"))
    return out


def nodes(tree):
    """L6 to L8, L18 to L20, L22 to L25, L27: statements and expressions."""
    out = []
    parents = parents_of(tree)
    for node in ast.walk(tree):
        line = getattr(node, "lineno", 0)
        for kind, words in BARRED_NODES.items():
            if isinstance(node, kind):
                out.append((line, words.split(" ")[0], words))
        if isinstance(node, ast.stmt) and not isinstance(node, (*STATEMENTS, ast.ImportFrom, ast.ClassDef)):
            out.append((line, "L6", "a statement"))
        if isinstance(node, ast.Constant):
            out += [(line, "L27", words) for words in constant_finds(node.value, parents.get(node))]
        if isinstance(node, ast.Compare):
            for sign, right in zip(node.ops, node.comparators):
                if isinstance(sign, (ast.Is, ast.IsNot)) and not isinstance(right, ast.Constant):
                    out.append((line, "L20", "`is` with another thing"))
        if isinstance(node, ast.Raise) and not (node.exc is None or isinstance(node.exc, ast.Call)):
            out.append((line, "L19", "what is raised is not made on the spot"))
        if isinstance(node, ast.ExceptHandler):
            if node.type is None or getattr(node.type, "id", "") in vars(builtins):
                out.append((line, "L19", "an error of Python's own is caught"))
        if isinstance(node, (ast.Set, ast.SetComp)) and not set_stands(node, parents[node]):
            out.append((line, "L24", "a set"))
        if isinstance(node, ast.Call):
            out += [(line, *row) for row in call_finds(node, parents)]
    return out


def constant_finds(value, parent):
    if isinstance(value, (float, complex, bytes)):
        return ["a value"]
    if not isinstance(value, str) or isinstance(parent, ast.Expr):
        return []
    if "%" in value or any(not " " <= character <= "~" for character in value):
        return ["a character in a string"]
    return ["an end of a string"] if value.endswith(("._", ".__")) or "__" in value else []


def set_stands(node, parent):
    if isinstance(parent, ast.Assign):
        return len(parent.targets) == 1 and isinstance(parent.targets[0], ast.Name)
    if isinstance(parent, ast.Compare):
        return True
    return isinstance(parent, ast.Call) and getattr(parent.func, "id", "") in ("sorted", "len")


def call_finds(node, parents):
    out = []
    parent = parents[node]
    if isinstance(node.func, ast.Name):
        name = node.func.id
        keys = {keyword.arg for keyword in node.keywords}
        allowed = {"sorted": {"key", "reverse"}, "min": {"key", "default"}, "max": {"key", "default"},
                   "sum": {"start"}, "enumerate": {"start"}, "zip": {"strict"}}
        if name in BUILTINS and not keys <= allowed.get(name, set()):
            out.append(("L22", f"a keyword of {name}"))
        if name == "set" and not set_stands(node, parent):
            out.append(("L24", "a set"))
        if name in VIEWS and not eaten(node, parent):
            out.append(("L23", f"{name} is not iterated at once"))
        if name == "reversed" and not isinstance(node.args[0], (ast.Call, ast.Tuple, ast.List)):
            out.append(("L5", "what is reversed is no new list"))
        if name in ("getattr", "setattr", "hasattr", "type", "iter", "next", "map", "divmod", "pow", "bytes"):
            if not (name == "iter" and isinstance(parent, ast.Return)):
                out.append(("L8", f"{name} needs a look"))
    elif isinstance(node.func, ast.Attribute):
        if node.func.attr in ("items", "keys", "values") and not eaten(node, parent):
            out.append(("L23", "a view is not iterated at once"))
        if node.func.attr in METHODS and node.keywords:
            out.append(("L25", "a keyword of a method"))
    elif not isinstance(node.func, ast.Call):
        out.append(("L7", "a call of an expression"))
    return out


def eaten(node, parent):
    if isinstance(parent, (ast.For, ast.comprehension)):
        return parent.iter is node
    if isinstance(parent, ast.Compare):
        return getattr(node.func, "id", "") == "range"
    return isinstance(parent, ast.Call) and getattr(parent.func, "id", "") in EATERS


def names(tree):
    """L8, L12, L15, L17, L25: every name is allowed, and names nothing of Python's own anew."""
    out = []
    bound = set(shut(tree)) | {node.name for node in ast.walk(tree) if isinstance(node, ast.FunctionDef)}
    for node in ast.walk(tree):
        told = []
        if isinstance(node, ast.Name):
            told = [node.id] if isinstance(node.ctx, ast.Store) else []
            if isinstance(node.ctx, ast.Load) and node.id in vars(builtins) and node.id not in BUILTINS | bound:
                out.append((node.lineno, "L8", node.id))
        elif isinstance(node, ast.arg):
            told = [node.arg]
        elif isinstance(node, (ast.FunctionDef, ast.ClassDef)):
            told = [node.name] if node.name not in SPECIAL else []
        for name in told:
            plain = name == "_" or re.fullmatch(r"_?[A-Za-z][A-Za-z0-9_]*", name)
            if not plain or name in vars(builtins) or name in BARRED_NAMES:
                out.append((node.lineno, "L15", name))
    return out


def imports(files):
    """L2, L16, L25, L26: imports from the files that define the names, no circles; methods and attributes."""
    out = []
    defined = {}
    ahead = {}
    for name, _, tree in files:
        defined[name[:-3]] = {node.name for node in tree.body if isinstance(node, (ast.FunctionDef, ast.ClassDef))} | {
            node.targets[0].id for node in tree.body if isinstance(node, ast.Assign)}
    for name, _, tree in files:
        ahead[name[:-3]] = []
        for node in ast.walk(tree):
            if isinstance(node, ast.ImportFrom):
                module, _, rest = node.module.partition(".")
                good = defined.get(rest, set()) if module == "handcarried" and not node.level else set()
                if module in LIBRARY and not rest:
                    good = LIBRARY[module]
                else:
                    ahead[name[:-3]].append(rest)
                out += [(name, node.lineno, "L16", alias.name) for alias in node.names
                        if alias.name not in good or alias.asname]
    out += [(name + ".py", 0, "L16", "a circle of imports") for name in ahead if name in reached(ahead, ahead[name])]
    return out + attributes(files)


def reached(ahead, names_left):
    seen = set()
    queue = list(names_left)
    while queue:
        name = queue.pop()
        if name not in seen:
            seen.add(name)
            queue += ahead.get(name, [])
    return seen


def attributes(files):
    methods = {part.name for _, _, tree in files for node in tree.body if isinstance(node, ast.ClassDef)
               for part in node.body if isinstance(part, ast.FunctionDef)}
    given = {node.attr for _, _, tree in files for node in ast.walk(tree)
             if isinstance(node, ast.Attribute) and isinstance(node.ctx, ast.Store)}
    own = {name for name in dir(str) + dir(int) + dir(list) + dir(dict) + dir(set) + dir(bytes) + dir(tuple)}
    out = [("", 0, "L26", name) for name in sorted((methods - METHODS | given) & own - SPECIAL)]
    out += [("", 0, "L18", f"{name} is a method and an attribute") for name in sorted(methods & given)]
    for file, _, tree in files:
        parents = parents_of(tree)
        for node in ast.walk(tree):
            if isinstance(node, ast.Attribute) and isinstance(node.ctx, ast.Load):
                called = isinstance(parents[node], ast.Call) and parents[node].func is node
                if node.attr not in (methods | given | METHODS | {"add", "discard", "__init__"}) or (
                        node.attr in METHODS and not called):
                    out.append((file, node.lineno, "L25", node.attr))
    return out


def runs(files):
    """L5, L28: what operators, properties and their kin run changes only what it created itself."""
    functions = {}
    for file, _, tree in files:
        for node in ast.walk(tree):
            if isinstance(node, ast.FunctionDef):
                functions.setdefault(node.name, []).append((file, node))
            if isinstance(node, ast.ClassDef):
                functions[node.name] = [(file, part) for part in node.body
                                        if isinstance(part, ast.FunctionDef) and part.name == "__init__"]
    queue = [(file, node) for name in functions for file, node in functions[name]
             if name in STILL or any(getattr(each, "id", "") == "property" for each in node.decorator_list)]
    seen = []
    out = []
    while queue:
        file, node = queue.pop()
        if node in seen:
            continue
        seen.append(node)
        out += [(file, *row) for row in changes(node)]
        for call in [each for each in ast.walk(node) if isinstance(each, ast.Call)]:
            called = call.func.attr if isinstance(call.func, ast.Attribute) else getattr(call.func, "id", "")
            # Through `super()` an error gives its own object a message, nothing more.
            queue += functions.get(called, []) if called != "__init__" else []
            if isinstance(call.func, ast.Name) and called in local_names(node) and called != "cls":
                out.append((file, call.lineno, "L5", f"{called} is called, which was passed"))
    return out


def changes(node):
    """What a function changes that it did not surely create."""
    out = []
    for each in ast.walk(node):
        owner = None
        if isinstance(each, ast.Call) and isinstance(each.func, ast.Attribute) and each.func.attr in CHANGING:
            owner = each.func.value
        elif isinstance(each, ast.Subscript) and isinstance(each.ctx, (ast.Store, ast.Del)):
            owner = each.value
        elif isinstance(each, ast.Attribute) and isinstance(each.ctx, (ast.Store, ast.Del)):
            if node.name != "__init__" or getattr(each.value, "id", "") != "self":
                out.append((each.lineno, "L5", f"{each.attr} is assigned"))
        elif isinstance(each, ast.AugAssign):
            if not (isinstance(each.target, ast.Name) and isinstance(each.value, ast.Constant)):
                out.append((each.lineno, "L5", "an assignment with a sign"))
        while isinstance(owner, ast.Subscript):
            owner = owner.value
        if owner is not None and not (isinstance(owner, ast.Name) and is_created(node, owner.id)):
            out.append((each.lineno, "L5", "a thing is changed that was not created here"))
    return out


def is_created(node, name):
    values = [each.value for each in ast.walk(node) if isinstance(each, ast.Assign)
              for target in each.targets if isinstance(target, ast.Name) and target.id == name]
    calls = ("list", "dict", "set", "sorted")
    return name not in [each.arg for each in node.args.args] and len(values) > 0 and all(
        isinstance(value, (ast.List, ast.Dict, ast.ListComp, ast.DictComp))
        or (isinstance(value, ast.Call) and getattr(value.func, "id", "") in calls) for value in values)
