"""Looks up, in the files of the package, those rules of LANGUAGE.md that a script can look up.

It is somewhat narrower than the rules: what it lets pass and the rules bar is for the reader to see.
"""

import ast
import builtins
import io
import re
import tokenize
import warnings

PACKAGE = "drawnbits"
ALLOWED = set("""len range enumerate zip min max sum abs sorted reversed int str bool bytes list tuple dict set
    frozenset isinstance ord repr any all divmod pow getattr hasattr setattr iter next map super property staticmethod
    classmethod
    Exception ValueError TypeError KeyError IndexError LookupError ZeroDivisionError ArithmeticError OverflowError
    RuntimeError NotImplementedError AttributeError StopIteration NotImplemented""".split())
LIBRARY = {"heapq": "heappush heappop heapify heapreplace heappushpop", "math": "gcd lcm isqrt comb perm factorial",
           "itertools": "product combinations permutations chain accumulate pairwise islice zip_longest",
           "collections": "defaultdict"}
CAUGHT = ("KeyError", "ZeroDivisionError")
METHODS = set("""append clear copy count endswith extend find get index insert isalnum isalpha isdigit islower isspace
    isupper items join keys ljust lower lstrip partition pop remove replace reverse rfind rjust rpartition rsplit rstrip
    setdefault split splitlines startswith strip update upper values zfill bit_length add discard title capitalize
    swapcase casefold center expandtabs removeprefix removesuffix rindex isascii isdecimal isnumeric istitle
    isidentifier isprintable translate sort format""".split())
DUNDERS = set("""__init__ __eq__ __repr__ __str__ __len__ __enter__ __exit__ __call__ __iter__ __lt__ __le__ __gt__
    __ge__ __ne__ __bool__ __contains__ __getitem__ __setitem__""".split())
NOWHERE = set("register mro elements open input law version_info with_traceback add_note".split())
NO_NAMES = set("""attrgetter breakpoint builtins compile copyright credits delattr dir eval exec exit gc globals help id
    importlib license locals methodcaller os quit type vars sys""".split())
NO_WORDS = re.compile(r"\b(type|typing|typing_extensions|enum|Enum|IntEnum|StrEnum|Flag|IntFlag|Generic|Protocol|ABC|"
                      r"ABCMeta|namedtuple|NamedTuple|TypedDict|TYPE_CHECKING|abstractmethod)\b|"
                      r"dataclass|overload|contextmanager")
FRAMES = re.compile(r"\b(f|tb|co|gi|cr)_(back|next|names|code|frame|lineno|locals|globals|builtins|"
                    r"trace|lasti|consts)\b")
BAD_START = re.compile(r"_wall|_pe_|_dcw_|_enum_|_cm_|_twin_re_|_lay_|_law_|_stub_|_sre|_WallAttr")
FILE_NAME = re.compile(r"[a-z][a-z0-9_]*")
NO_FILES = ("test", "tests", "testing", "site", "conftest", "sitecustomize", "usercustomize", "heapq", "math",
            "itertools", "collections")
NO_NODES = (ast.Global, ast.Import, ast.AsyncFunctionDef, ast.AsyncFor, ast.AsyncWith, ast.Await, ast.Div, ast.MatMult,
            ast.AnnAssign, ast.Set, ast.SetComp, ast.NamedExpr, ast.With, ast.Match, ast.YieldFrom)
NO_NODES_WHY = "is not looked up here: let tests/language.py look up its rules before it is used"
ONCE = ("zip", "enumerate", "reversed", "map")
GOES_OVER = ("list", "tuple", "dict", "sorted", "sum", "any", "all", "enumerate", "zip", "min", "max", "len",
             "reversed")
KEYWORDS = {"sorted": ("key", "reverse"), "min": ("key", "default"), "max": ("key", "default"), "sum": ("start",),
            "enumerate": ("start",), "zip": ("strict",)}


def faults_of(files):
    """All faults of a package: a dict from each file's path below the package to its text."""
    found = folder_faults(files)
    trees = {}
    for path, text in files.items():
        found += text_faults(path, text)
        trees[path] = parsed(text)
    classes = set([node.name for tree in trees.values() for node in tree.body if isinstance(node, ast.ClassDef)])
    own = set([node.name for tree in trees.values() for node in ast.walk(tree) if isinstance(node, ast.FunctionDef)])
    for path, tree in trees.items():
        found += import_faults(path, tree, trees) + module_faults(path, tree) + name_faults(path, tree)
        found += function_faults(path, tree) + node_faults(path, tree, classes, own) + call_faults(path, tree)
    return found + cycle_faults(trees)


def parsed(text):
    """The tree of a text; the warnings of Python are told elsewhere."""
    with warnings.catch_warnings():
        warnings.simplefilter("ignore")
        return ast.parse(text)


def folder_faults(files):
    found = [] if "__init__.py" in files else ["L14 no __init__.py"]
    if len(files) > 100:
        found.append("L14 too many files")
    for path in files:
        name, dot, ending = path.rpartition(".")
        if ending != "py" or (name != "__init__" and not FILE_NAME.fullmatch(name)):
            found.append(f"L1 {path}: name")
        if name in NO_FILES or name.startswith(("law_", "test_")) or name in dir(builtins) or name in NO_NAMES:
            found.append(f"L14 {path}: name")
        if NO_WORDS.fullmatch(name):
            found.append(f"L14 {path}: name")
    return found


def text_faults(path, text):
    found = []
    lines = text.split("\n")
    if len(text.splitlines()) > 399:
        found.append(f"L10 {path}: lines")
    for at, line in enumerate(lines, 1):
        if len(line) > 120:
            found.append(f"L10 {path}:{at}: long line")
        if not all([" " <= c <= "~" for c in line]):
            found.append(f"L14 {path}:{at}: character")
        if "_wall" in line or "_WallAttr" in line:
            found.append(f"L12 {path}:{at}: word")
    with warnings.catch_warnings(record=True) as told:
        warnings.simplefilter("always")
        compile(text, path, "exec")
    if told:
        found.append(f"L27 {path}: Python warns")
    docs = doc_lines(parsed(text))
    for token in tokenize.generate_tokens(io.StringIO(text).readline):
        at = token.start[0]
        if token.type == tokenize.STRING:
            found += string_faults(path, at, token.string)
        in_doc = token.type == tokenize.STRING and at in docs
        if token.type in (tokenize.NAME, tokenize.STRING) and not in_doc and NO_WORDS.search(token.string):
            found.append(f"L17 {path}:{at}: {token.string}")
        if token.type in (tokenize.NAME, tokenize.STRING) and FRAMES.search(token.string):
            found.append(f"L17 {path}:{at}: {token.string}")
    return found


def string_faults(path, at, text):
    found = []
    if "%" in text:
        found.append(f"L27 {path}:{at}: percent sign")
    if re.search(r"\\[^nt\\'\"]", text.replace("\\\\", "")):
        found.append(f"L27 {path}:{at}: escape")
    body = text.strip("rbfRBF").strip("'\"")
    if body.endswith(("._", ".__")) or (body.startswith("__") and body.endswith("__") and body != "__main__"):
        found.append(f"L27 {path}:{at}: underscores")
    return found


def doc_lines(tree):
    """The lines at which docstrings begin."""
    found = []
    for node in ast.walk(tree):
        if isinstance(node, (ast.Module, ast.FunctionDef, ast.ClassDef)) and ast.get_docstring(node) is not None:
            found.append(node.body[0].lineno)
    return found


def import_faults(path, tree, trees):
    found = []
    late = False
    for node in tree.body:
        is_import = isinstance(node, (ast.Import, ast.ImportFrom))
        if is_import and late:
            found.append(f"L2 {path}:{node.lineno}: import not at the top")
        late = late or not (is_import or is_text(node))
    nested = [node for part in tree.body for node in ast.walk(part) if node is not part]
    found += [f"L2 {path}:{node.lineno}: import inside" for node in nested if isinstance(node, ast.ImportFrom)]
    for node in [node for node in tree.body if isinstance(node, ast.ImportFrom)]:
        for alias in node.names:
            if node.level or alias.asname or not is_importable(node.module, alias.name, trees):
                found.append(f"L16 {path}:{node.lineno}: {alias.name}")
    return found


def is_importable(module, name, trees):
    if module in LIBRARY:
        return name in LIBRARY[module].split()
    head, dot, file = module.partition(".")
    tree = trees.get(file.replace(".", "/") + ".py")
    return head == PACKAGE and tree is not None and name in bound_names(tree, False)


def bound_names(tree, with_imports):
    """The names that are bound at module level."""
    found = []
    for node in tree.body:
        if isinstance(node, (ast.FunctionDef, ast.ClassDef)):
            found.append(node.name)
        if isinstance(node, ast.Assign):
            found += [target.id for target in node.targets if isinstance(target, ast.Name)]
        if with_imports and isinstance(node, ast.ImportFrom):
            found += [alias.name for alias in node.names]
    return found


def cycle_faults(trees):
    after = {}
    for path, tree in trees.items():
        modules = [node.module for node in tree.body if isinstance(node, ast.ImportFrom) and node.module]
        after[path] = [module.partition(".")[2] + ".py" for module in modules if module.startswith(PACKAGE + ".")]
    found = []
    for path in after:
        seen, left = [], list(after[path])
        while left:
            there = left.pop()
            if there not in seen:
                seen.append(there)
                left += after.get(there, [])
        if path in seen:
            found.append(f"L16 {path}: imports itself through others")
    return found


def is_text(node):
    return isinstance(node, ast.Expr) and isinstance(node.value, ast.Constant) and isinstance(node.value.value, str)


def module_faults(path, tree):
    found = []
    names = bound_names(tree, True)
    found += [f"L15 {path}: {name} is bound twice" for name in set(names) if names.count(name) > 1]
    for at, node in enumerate(tree.body):
        right = isinstance(node, (ast.ImportFrom, ast.FunctionDef, ast.ClassDef)) or (at == 0 and is_text(node))
        if isinstance(node, ast.Assign):
            right = len(node.targets) == 1 and isinstance(node.targets[0], ast.Name) and is_value(node.value)
        if not right:
            found.append(f"L3 {path}:{node.lineno}: statement")
    classes = [node for node in ast.walk(tree) if isinstance(node, ast.ClassDef)]
    for node in classes:
        if node not in tree.body:
            found.append(f"L15 {path}:{node.lineno}: class inside")
        if node.decorator_list or node.keywords:
            found.append(f"L5 {path}:{node.lineno}: class")
        for part in node.body:
            if not isinstance(part, (ast.FunctionDef, ast.Assign)) and not is_text(part):
                found.append(f"L5 {path}:{part.lineno}: class body")
    return found


def is_value(node):
    """Whether the value of a module-level name is plain."""
    try:
        value = ast.literal_eval(node)
    except ValueError:
        return isinstance(node, ast.Name)
    return value.__class__ in (int, str, bytes, bool, None.__class__, tuple, list, dict)


def is_default(node):
    return is_value(node) and not [part for part in ast.walk(node) if isinstance(part, (ast.List, ast.Dict))]


def name_faults(path, tree):
    """Faults of the names that a file gives to things."""
    found = []
    taken = bound_names(tree, True)
    imports = [alias.name for node in tree.body if isinstance(node, ast.ImportFrom) for alias in node.names]
    top = [node for node in tree.body if isinstance(node, (ast.FunctionDef, ast.ClassDef))]
    barred = set(imports + [node.name for node in top if isinstance(node, ast.ClassDef)])
    local = []
    for node in ast.walk(tree):
        if isinstance(node, ast.arg):
            local.append((node.arg, node.lineno))
        if isinstance(node, ast.Name) and not isinstance(node.ctx, ast.Load):
            local.append((node.id, node.lineno))
        if isinstance(node, ast.FunctionDef) and node not in top:
            local.append((node.name, node.lineno))
    found += [f"L15 {path}:{at}: {name}" for name, at in local if name in barred]
    for name, at in local + [(name, 1) for name in taken]:
        if name in dir(builtins) and not name.startswith("__") or name in NOWHERE or name in NO_NAMES:
            found.append(f"L15 {path}:{at}: {name}")
        if not re.fullmatch(r"_|_?[A-Za-z][A-Za-z0-9_]*|__[a-z]+__", name) or BAD_START.match(name):
            found.append(f"L12 {path}:{at}: {name}")
    return found


def function_faults(path, tree):
    found = []
    for node in ast.walk(tree):
        if isinstance(node, ast.FunctionDef):
            if node.end_lineno - node.lineno + 1 > 40:
                found.append(f"L10 {path}:{node.lineno}: long function")
            if node.name.startswith("__") and node.name not in DUNDERS:
                found.append(f"L5 {path}:{node.lineno}: {node.name}")
            if node.returns or [part for part in ast.walk(node.args) if isinstance(part, ast.arg) and part.annotation]:
                found.append(f"L21 {path}:{node.lineno}: annotation")
            for mark in node.decorator_list:
                word = mark.attr if isinstance(mark, ast.Attribute) else getattr(mark, "id", "")
                if word not in ("property", "setter", "staticmethod", "classmethod"):
                    found.append(f"L4 {path}:{node.lineno}: decorator")
            if node.args.defaults or node.args.kw_defaults:
                values = [value for value in node.args.defaults + node.args.kw_defaults if value is not None]
                found += [f"L4 {path}:{node.lineno}: default" for value in values if not is_default(value)]
    return found


def node_faults(path, tree, classes, own):
    found = []
    for node in ast.walk(tree):
        at = f"{path}:{getattr(node, 'lineno', 0)}"
        if isinstance(node, NO_NODES):
            found.append(f"L6 {at}: {node.__class__.__name__} {NO_NODES_WHY}")
        if isinstance(node, ast.Constant) and node.value.__class__ in (float, complex, Ellipsis.__class__):
            found.append(f"L7 {at}: {node.value}")
        if isinstance(node, ast.Constant) and node.value.__class__ is int and node.value > 10 ** 900:
            found.append(f"L27 {at}: long number")
        if isinstance(node, ast.BinOp) and isinstance(node.op, ast.Pow) and not is_exponent(node.right):
            found.append(f"L27 {at}: exponent")
        if isinstance(node, ast.Raise) and not is_own_error(node.exc, classes):
            found.append(f"L19 {at}: raise")
        if isinstance(node, ast.Try) and not is_try(node, classes):
            found.append(f"L19 {at}: try")
        if isinstance(node, ast.FormattedValue) and not is_plain_part(node):
            found.append(f"L7 {at}: f-string")
        if isinstance(node, ast.Compare) and [op for op in node.ops if isinstance(op, (ast.Is, ast.IsNot))]:
            if not all([is_single(side) for side in node.comparators]):
                found.append(f"L20 {at}: is")
        if isinstance(node, ast.Attribute) and (node.attr.startswith("__") and node.attr != "__init__"):
            found.append(f"L8 {at}: {node.attr}")
        if isinstance(node, ast.Call) and isinstance(node.func, ast.Attribute):
            if node.func.attr not in METHODS and node.func.attr not in own:
                found.append(f"L25 {at}: {node.func.attr}")
            if node.func.attr in METHODS and node.func.attr not in own and node.keywords and node.func.attr != "sort":
                found.append(f"L25 {at}: keyword")
    return found


def is_exponent(node):
    return isinstance(node, ast.Constant) and node.value.__class__ is int and 0 <= node.value <= 64


def is_own_error(node, classes):
    """Whether a raise stands bare, or creates an own error on the spot."""
    if node is None:
        return True
    return isinstance(node, ast.Call) and isinstance(node.func, ast.Name) and node.func.id in classes


def is_try(node, classes):
    """Whether a try catches own errors, or those of Python's own that are caught freely, and does no more."""
    kinds = []
    for handler in node.handlers:
        kinds += handler.type.elts if isinstance(handler.type, ast.Tuple) else [handler.type]
    names = [kind.id for kind in kinds if isinstance(kind, ast.Name)]
    right = [name for name in names if name in classes or name in CAUGHT]
    return len(right) == len(kinds) and not node.finalbody


def is_plain_part(node):
    """Whether a part of an f-string has no format, no !a and no string inside."""
    strings = [part for part in ast.walk(node.value) if isinstance(part, (ast.JoinedStr, ast.Constant))]
    return node.format_spec is None and node.conversion != ord("a") and not strings


def is_single(node):
    """Whether `is` may stand beside it: None, True or False."""
    return isinstance(node, ast.Constant) and node.value.__class__ in (None.__class__, bool)


def call_faults(path, tree):
    """Faults of the builtins: which, with which keywords, and whether zips and their kin are iterated at once."""
    found = []
    names = [node for node in ast.walk(tree) if isinstance(node, ast.Name)]
    given = bound_names(tree, True) + [node.id for node in names if not isinstance(node.ctx, ast.Load)]
    given += [node.arg for node in ast.walk(tree) if isinstance(node, ast.arg)]
    called = [node.func for node in ast.walk(tree) if isinstance(node, ast.Call)]
    over = gone_over(tree)
    for node in ast.walk(tree):
        if isinstance(node, ast.Name) and isinstance(node.ctx, ast.Load) and node.id not in given:
            if node.id not in ALLOWED:
                found.append(f"L8 {path}:{node.lineno}: {node.id}")
            elif node.id[0].islower() and node not in called and not is_kind(node, tree):
                found.append(f"L22 {path}:{node.lineno}: {node.id} is not called")
        if isinstance(node, ast.Name) and node.id in LIBRARY["math"].split() and node not in called:
            found.append(f"L2 {path}:{node.lineno}: {node.id} is not called")
        if isinstance(node, ast.GeneratorExp) and node not in over:
            found.append(f"L7 {path}:{node.lineno}: generator expression")
        if isinstance(node, ast.Call) and isinstance(node.func, ast.Name) and node.func.id not in given:
            word = node.func.id
            wrong = [more.arg for more in node.keywords if more.arg not in KEYWORDS.get(word, ())]
            if wrong:
                found.append(f"L22 {path}:{node.lineno}: keywords {wrong}")
            if word in ("set", "frozenset", "pow"):
                found.append(f"L24 {path}:{node.lineno}: {word} {NO_NODES_WHY}")
            if word in ONCE and node not in over:
                found.append(f"L23 {path}:{node.lineno}: {word} is not iterated at once")
    return found


def gone_over(tree):
    """What is iterated at once: behind `in`, or as the first argument of a builtin that goes over it."""
    found = []
    for node in ast.walk(tree):
        if isinstance(node, (ast.For, ast.comprehension)):
            found.append(node.iter)
        if isinstance(node, ast.Call) and isinstance(node.func, ast.Name) and node.func.id in GOES_OVER:
            found += node.args[:1]
        if isinstance(node, ast.Call) and isinstance(node.func, ast.Attribute) and node.func.attr == "join":
            found += node.args[:1]
    return found


def is_kind(name, tree):
    """Whether a name stands as the second argument of isinstance, or as a key."""
    for node in ast.walk(tree):
        if isinstance(node, ast.Call) and isinstance(node.func, ast.Name):
            if node.func.id == "isinstance" and name in list(ast.walk(node.args[1])):
                return True
            if name in [more.value for more in node.keywords if more.arg == "key"]:
                return True
    return False
