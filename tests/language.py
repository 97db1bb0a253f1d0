"""Holds the package's files against the rules of the language, L1 to L28, as far as a walk over them can see.

Where a rule says what is best (L21, L28), nothing else is let by here. What no walk can see (L9 beyond names,
L11 on the words of errors and on deep recursion) is left out.
"""

import ast
import builtins
import io
import re
import tokenize

STATEMENTS = (
    ast.FunctionDef, ast.ClassDef, ast.ImportFrom, ast.Assign, ast.AugAssign, ast.If, ast.While, ast.For,
    ast.Return, ast.Break, ast.Continue, ast.Pass, ast.Raise, ast.Try, ast.Expr,
)
EXPRESSIONS = (
    ast.Constant, ast.Name, ast.List, ast.Tuple, ast.Dict, ast.Set, ast.BinOp, ast.UnaryOp, ast.Compare, ast.BoolOp,
    ast.IfExp, ast.Call, ast.Attribute, ast.Subscript, ast.Slice, ast.ListComp, ast.JoinedStr, ast.FormattedValue,
    ast.Lambda,
)
CALLED = """
    len range enumerate zip min max sum abs sorted reversed int str bool list tuple dict set frozenset isinstance ord
    repr any all divmod
""".split()
ERRORS = """
    Exception ValueError TypeError KeyError IndexError LookupError ZeroDivisionError ArithmeticError OverflowError
    RuntimeError NotImplementedError AttributeError StopIteration
""".split()
METHODS = """
    append clear copy count endswith extend find get index insert isalnum isalpha isdigit islower isspace isupper items
    join keys ljust lower lstrip partition pop remove replace reverse rfind rjust rpartition rsplit rstrip setdefault
    split splitlines startswith strip update upper values zfill bit_length
""".split()
CHANGES = "append clear extend insert pop remove reverse setdefault update".split()
VALUES_LET_BY = "count index title find get join lower upper split strip copy add".split()
WORDS = """
    type typing typing_extensions enum Enum IntEnum StrEnum Flag IntFlag Generic Protocol ABC ABCMeta namedtuple
    NamedTuple TypedDict TYPE_CHECKING abstractmethod
""".split()
NOWHERE = """
    register mro elements open input version_info with_traceback add_note format format_map f_back f_code f_globals
    f_locals f_lineno f_builtins tb_next tb_frame tb_lineno co_names co_code co_consts co_varnames gi_frame cr_frame
""".split()
NOT_AS_NAMES = """
    attrgetter breakpoint builtins compile copyright credits delattr dir eval exec exit gc getattr globals hasattr help
    id importlib license locals methodcaller os quit setattr super type vars sys chr print
""".split()
NO_FILES = "test tests testing site conftest sitecustomize usercustomize".split() + WORDS + dir(builtins)
WALKED = "zip enumerate reversed range".split()
WALKED_METHODS = "items keys values".split()
WALKERS = "list tuple dict sorted sum any all enumerate zip min max".split()
KEYS = "len int str abs sum min max tuple".split()
KEYWORDS = {
    "sorted": ("key", "reverse"), "min": ("key", "default"), "max": ("key", "default"), "sum": ("start",),
    "enumerate": ("start",), "zip": ("strict",),
}
READERS = "len list dict tuple sorted min max sum any all enumerate zip reversed".split()
PYTHONS_OWN = {attribute for kind in (str, int, list, dict, set, bytes) for attribute in dir(kind)}


def faults(text, module="mustrows.sample"):
    """The numbers of the rules that the text of one file breaks."""
    return sorted({rule for module, line, rule in package_faults({module: text})})


def package_faults(texts):
    """What files, by their modules' names, break, as tuples of a module's name, a line and a rule's number."""
    trees = {module: ast.parse(text) for module, text in texts.items()}
    found = []
    for module, text in texts.items():
        tree = trees[module]
        for parent in ast.walk(tree):
            for child in ast.iter_child_nodes(parent):
                child.parent = parent
        pairs = name_of_file_faults(module) + sign_faults(text) + token_faults(text) + top_faults(tree)
        pairs += import_faults(module, trees) + member_faults(module, trees)
        pairs += name_faults(tree) + kept_at_the_top_faults(tree)
        for node in ast.walk(tree):
            for check in CHECKS:
                pairs += [(rule, node.lineno) for rule in check(node, tree)]
        found += [(module, line, rule) for rule, line in pairs]
    return sorted(set(found))


def name_of_file_faults(module):
    last = module.split(".")[-1]
    plain = re.fullmatch("[a-z][a-z0-9_]*", last) and last not in NO_FILES and not last.startswith("test_")
    return [] if plain or last == "__init__" else [("L14", 0)]


def sign_faults(text):
    found = []
    lines = text.split("\n")
    for number, line in enumerate(lines, start=1):
        if len(line) > 120:
            found.append(("L10", number))
        if not re.fullmatch("[ -~]*", line):
            found.append(("L14", number))
        if set(re.findall(r"\w+", line)) & set(WORDS) or re.search("dataclass|overload|contextmanager", line):
            found.append(("L17", number))
    if len(lines) > 401:
        found.append(("L10", len(lines)))
    return found


def token_faults(text):
    found = []
    for token in tokenize.generate_tokens(io.StringIO(text).readline):
        written = token.type == tokenize.STRING or "FSTRING" in tokenize.tok_name[token.type]
        if written and re.search(r"\\[^nt\\'\"]", token.string.replace("\\\\", "")):
            found.append(("L27", token.start[0]))
        if token.type == tokenize.NUMBER and len(token.string) > 900:
            found.append(("L27", token.start[0]))
    return found


# The top of a file: L3, L15, L18.

def top_faults(tree):
    found, seen = [], []
    for place, node in enumerate(tree.body):
        if isinstance(node, ast.Expr):
            if place > 0 or not is_text(node.value):
                found.append(("L3", node.lineno))
        elif isinstance(node, ast.Assign):
            if not isinstance(node.targets[0], ast.Name) or not is_plain(node.value, seen):
                found.append(("L3", node.lineno))
            if any(isinstance(part, (ast.List, ast.Dict)) for part in list(ast.walk(node.value))[1:]):
                found.append(("L15", node.lineno))
        elif not isinstance(node, (ast.ImportFrom, ast.FunctionDef, ast.ClassDef)):
            found.append(("L3", node.lineno))
        names = top_names(node)
        found += [("L15", node.lineno) for name in names if name in seen]
        seen += names
    return found


def top_names(node):
    if isinstance(node, ast.ImportFrom):
        return [alias.asname or alias.name for alias in node.names]
    if isinstance(node, (ast.FunctionDef, ast.ClassDef)):
        return [node.name]
    if isinstance(node, ast.Assign):
        return [target.id for target in node.targets if isinstance(target, ast.Name)]
    return []


def is_text(node):
    return isinstance(node, ast.Constant) and isinstance(node.value, str)


def is_plain(node, names=()):
    if isinstance(node, (ast.List, ast.Tuple)):
        return all(is_plain(part, names) for part in node.elts)
    if isinstance(node, ast.Dict):
        return all(part is not None and is_plain(part, names) for part in node.keys + node.values)
    if isinstance(node, ast.UnaryOp):
        return isinstance(node.op, ast.USub) and is_plain(node.operand)
    if isinstance(node, ast.Name):
        return node.id in names
    return isinstance(node, ast.Constant) and isinstance(node.value, (int, str, type(None)))


def kept_at_the_top_faults(tree):
    kept = [
        node.targets[0].id for node in tree.body
        if isinstance(node, ast.Assign) and isinstance(node.value, (ast.List, ast.Dict))
    ]
    return [
        ("L15", node.lineno) for node in ast.walk(tree)
        if isinstance(node, ast.Name) and isinstance(node.ctx, ast.Load) and node.id in kept and not is_only_read(node)
    ]


def is_only_read(node):
    parent = node.parent
    if isinstance(parent, ast.Subscript):
        return isinstance(parent.ctx, ast.Load) and parent.value is node
    if isinstance(parent, (ast.For, ast.comprehension)):
        return parent.iter is node
    if isinstance(parent, ast.Compare):
        return all(isinstance(op, (ast.In, ast.NotIn, ast.Eq, ast.NotEq)) for op in parent.ops)
    if isinstance(parent, ast.Attribute):
        return parent.attr in METHODS and parent.attr not in CHANGES
    return calls_of(parent, READERS)


# Imports and members, over the whole package: L2, L16, L18, L26.

def import_faults(module, trees):
    found = []
    for node in ast.walk(trees[module]):
        if isinstance(node, ast.Import) or isinstance(node, ast.ImportFrom) and node not in trees[module].body:
            found.append(("L2", node.lineno))
        elif isinstance(node, ast.ImportFrom) and node.module != "__future__" and not is_own_import(node, trees):
            found.append(("L16", node.lineno))
    return found + [("L16", 0)] * (module in drawn_from(module, trees))


def is_own_import(node, trees):
    if node.level or node.module not in trees:
        return False
    parts = [part for part in trees[node.module].body if not isinstance(part, ast.ImportFrom)]
    defined = [name for part in parts for name in top_names(part)]
    return all(alias.name in defined and alias.asname is None for alias in node.names)


def drawn_from(module, trees):
    seen, waiting = set(), [module]
    while waiting:
        tree = trees.get(waiting.pop(), ast.Module([], []))
        near = {node.module for node in tree.body if isinstance(node, ast.ImportFrom)} - seen
        seen |= near
        waiting += near
    return seen


def methods_in(tree):
    return [
        part for node in ast.walk(tree) if isinstance(node, ast.ClassDef)
        for part in node.body if isinstance(part, ast.FunctionDef)
    ]


def values_in(tree):
    return [node for node in ast.walk(tree) if isinstance(node, ast.Attribute) and isinstance(node.ctx, ast.Store)]


def member_faults(module, trees):
    methods = {method.name for tree in trees.values() for method in methods_in(tree)}
    values = {value.attr for tree in trees.values() for value in values_in(tree)}
    found = [("L18", value.lineno) for value in values_in(trees[module]) if value.attr in methods]
    for node in trees[module].body:
        names = [part.name for part in ast.iter_child_nodes(node) if isinstance(part, ast.FunctionDef)]
        found += [("L18", node.lineno)] * (len(names) != len(set(names)))
    let_by = METHODS + ["add", "discard", "__init__"]
    found += [
        ("L26", method.lineno) for method in methods_in(trees[module]) if method.name in PYTHONS_OWN - set(let_by)
    ]
    found += [
        ("L26", value.lineno) for value in values_in(trees[module]) if value.attr in PYTHONS_OWN - set(VALUES_LET_BY)
    ]
    found += [
        ("L25", node.lineno) for node in ast.walk(trees[module])
        if isinstance(node, ast.Attribute) and node.attr not in METHODS and node.attr not in methods | values
    ]
    return found


# Names: L8, L12, L15, L17.

def name_faults(tree):
    top = [name for node in tree.body for name in top_names(node)]
    classes_and_imports = [
        name for node in tree.body if isinstance(node, (ast.ClassDef, ast.ImportFrom)) for name in top_names(node)
    ]
    bound = [(name, node) for node in ast.walk(tree) for name in bound_names(node)]
    known = set(top) | {name for name, node in bound} | set(CALLED) | set(ERRORS)
    found = []
    for name, node in bound:
        rules = (
            ("L12", not re.fullmatch("[A-Za-z][A-Za-z0-9_]*|__init__|__all__|__version__", name)),
            ("L15", name in dir(builtins) and not is_method(node)),
            ("L15", name in classes_and_imports and node not in tree.body and not is_method(node)),
            ("L17", name in NOWHERE + NOT_AS_NAMES),
        )
        found += [(rule, node.lineno) for rule, fault in rules if fault]
    for node in ast.walk(tree):
        if isinstance(node, ast.Name) and (node.id not in known or node.id in NOT_AS_NAMES):
            found.append(("L8", node.lineno))
        if isinstance(node, ast.Attribute) and (node.attr in NOWHERE or node.attr.startswith("_")):
            found.append(("L17", node.lineno))
    return found


def bound_names(node):
    if isinstance(node, ast.Name) and isinstance(node.ctx, ast.Store):
        return [node.id]
    if isinstance(node, ast.arg):
        return [node.arg]
    if isinstance(node, (ast.FunctionDef, ast.ClassDef)) or isinstance(node, ast.ExceptHandler) and node.name:
        return [node.name]
    return []


def is_method(node):
    return isinstance(node, ast.FunctionDef) and isinstance(node.parent, ast.ClassDef)


# One node at a time. Each check gives the numbers of the rules that the node breaks.

def form_faults(node, tree):
    rules = (
        ("L6", isinstance(node, ast.stmt) and not isinstance(node, STATEMENTS)),
        ("L6", isinstance(node, ast.Expr) and not isinstance(node.value, ast.Call) and not is_docstring(node)),
        ("L6", isinstance(node, ast.Assign) and (len(node.targets) != 1 or isinstance(node.targets[0], ast.Tuple))),
        ("L6", isinstance(node, (ast.For, ast.While)) and bool(node.orelse)),
        ("L6", isinstance(node, ast.Try) and bool(node.finalbody)),
        ("L7", isinstance(node, ast.expr) and not isinstance(node, EXPRESSIONS)),
        ("L7", isinstance(node, (ast.BinOp, ast.AugAssign)) and isinstance(node.op, (ast.Div, ast.MatMult))),
        ("L7", isinstance(node, ast.Constant) and isinstance(node.value, (float, bytes, complex, type(...)))),
        ("L7", isinstance(node, ast.ListComp) and (len(node.generators) != 1 or len(node.generators[0].ifs) > 1)),
        ("L7", isinstance(node, ast.FormattedValue) and not is_plain_field(node)),
        ("L10", isinstance(node, ast.FunctionDef) and node.end_lineno - node.lineno >= 40),
        ("L20", isinstance(node, ast.Compare) and any(is_loose_is(node, place) for place in range(len(node.ops)))),
        ("L27", is_text(node) and "%" in node.value),
        ("L27", isinstance(node, ast.BinOp) and isinstance(node.op, ast.Pow) and not is_small_exponent(node.right)),
    )
    return [rule for rule, fault in rules if fault]


def is_docstring(node):
    first = isinstance(node.parent, (ast.Module, ast.FunctionDef)) and node.parent.body[0] is node
    return first and is_text(node.value)


def is_plain_field(node):
    return isinstance(node.value, ast.Name) and node.conversion in (-1, ord("r")) and node.format_spec is None


def is_loose_is(node, place):
    beside = ([node.left] + node.comparators)[place:place + 2]
    if not isinstance(node.ops[place], (ast.Is, ast.IsNot)):
        return False
    return not any(isinstance(side, ast.Constant) and isinstance(side.value, (bool, type(None))) for side in beside)


def is_small_exponent(node):
    return isinstance(node, ast.Constant) and isinstance(node.value, int) and 0 <= node.value <= 64


def function_faults(node, tree):
    if not isinstance(node, (ast.FunctionDef, ast.Lambda)):
        return []
    arguments = node.args
    stars = arguments.vararg or arguments.kwarg or arguments.kwonlyargs or arguments.posonlyargs
    found = ["L4"] * (bool(stars) or not all(is_plain(value) for value in arguments.defaults))
    found += ["L21"] * any(argument.annotation is not None for argument in arguments.args)
    if isinstance(node, ast.FunctionDef):
        found += ["L4"] * bool(node.decorator_list) + ["L21"] * (node.returns is not None)
        found += ["L28"] * (node.name.startswith("__") and node.name != "__init__")
        inner = [part for part in ast.walk(node) if isinstance(part, ast.Return) and part.value is not None]
        found += ["L28"] * (node.name == "__init__" and bool(inner))
    else:
        alike = [
            other for other in ast.walk(tree) if isinstance(other, ast.Lambda) and other.lineno == node.lineno
            and [part.arg for part in other.args.args] == [part.arg for part in arguments.args]
        ]
        found += ["L13"] * (len(alike) > 1)
    return found


def class_faults(node, tree):
    if not isinstance(node, ast.ClassDef):
        return []
    found = ["L5"] * (bool(node.decorator_list) or bool(node.keywords) or len(node.bases) > 1)
    found += ["L5"] * any(not isinstance(part, (ast.FunctionDef, ast.Pass)) for part in node.body)
    found += ["L15"] * (node not in tree.body)
    own = [name for part in tree.body if isinstance(part, (ast.ClassDef, ast.ImportFrom)) for name in top_names(part)]
    let_by = own + [name for name in ERRORS if name not in ("StopIteration", "AttributeError")]
    found += ["L18"] * any(not isinstance(base, ast.Name) or base.id not in let_by for base in node.bases)
    return found


def class_use_faults(node, tree):
    """A class is called, is a base, or stands by isinstance, except or raise."""
    classes = [part.name for part in tree.body if isinstance(part, ast.ClassDef)]
    if isinstance(node, ast.Attribute) and isinstance(node.ctx, ast.Store):
        return ["L18"] * (not isinstance(node.value, ast.Name) or node.value.id in classes)
    if not isinstance(node, ast.Name) or not isinstance(node.ctx, ast.Load) or node.id not in classes + ERRORS:
        return []
    parent = node.parent
    called = isinstance(parent, ast.Call) and parent.func is node
    by_isinstance = calls_of(parent, ["isinstance"]) or isinstance(parent, ast.Tuple) and (
        calls_of(parent.parent, ["isinstance"]) or isinstance(parent.parent, ast.ExceptHandler)
    )
    return ["L18"] * (not (called or by_isinstance or isinstance(parent, (ast.ClassDef, ast.ExceptHandler))))


def error_faults(node, tree):
    if isinstance(node, ast.Raise):
        return ["L19"] * (not isinstance(node.exc, ast.Call))
    if not isinstance(node, ast.Try):
        return []
    found = []
    for handler in node.handlers:
        kinds = handler.type.elts if isinstance(handler.type, ast.Tuple) else [handler.type]
        names = [kind.id if isinstance(kind, ast.Name) else "" for kind in kinds]
        found += ["L19"] * any(name in ("", "Exception", "TypeError") for name in names)
        calls = [part for line in node.body for part in ast.walk(line) if isinstance(part, ast.Call)]
        let_by = [part for part in calls if calls_of(part, ["int", "str"]) or method_of(part) in ("index", "remove")]
        found += ["L19"] * (calls != let_by and any(name in ("ValueError", "LookupError") for name in names))
        found += ["L19"] * (bool(calls) and "IndexError" in names)
    return found


def call_faults(node, tree):
    """Python's own as they are called: L22, L25."""
    if isinstance(node, ast.Name) and isinstance(node.ctx, ast.Load) and node.id in CALLED:
        parent = node.parent
        as_key = isinstance(parent, ast.keyword) and parent.arg == "key" and node.id in KEYS
        near = parent.parent if isinstance(parent, ast.Tuple) else parent
        called = isinstance(parent, ast.Call) and parent.func is node
        return ["L22"] * (not (called or as_key or calls_of(near, ["isinstance"])))
    if isinstance(node, ast.Attribute) and isinstance(node.ctx, ast.Load) and node.attr in METHODS:
        called = isinstance(node.parent, ast.Call) and node.parent.func is node
        return ["L25"] * (not called and not isinstance(node.parent, ast.keyword))
    if not isinstance(node, ast.Call):
        return []
    names = [keyword.arg for keyword in node.keywords]
    if isinstance(node.func, ast.Name) and node.func.id in CALLED + ERRORS:
        return ["L22"] * any(name not in KEYWORDS.get(node.func.id, ()) for name in names)
    return ["L22"] * (method_of(node) in METHODS and bool(names))


def walk_faults(node, tree):
    """What is walked at once, and what a walk leaves as it is: L23."""
    if calls_of(node, WALKED) or method_of(node) in WALKED_METHODS:
        return ["L23"] * (not is_walked(node))
    if not isinstance(node, ast.For):
        return []
    walked = node.iter
    if isinstance(walked, ast.Call) and isinstance(walked.func, ast.Name) and walked.func.id in WALKED and walked.args:
        walked = walked.args[0]
    elif method_of(walked) in WALKED_METHODS:
        walked = walked.func.value
    if not isinstance(walked, (ast.Name, ast.Attribute)):
        return []
    return ["L23"] * any(changes(part, ast.dump(walked)) for line in node.body for part in ast.walk(line))


def is_walked(node):
    parent = node.parent
    if isinstance(parent, (ast.For, ast.comprehension)):
        return parent.iter is node
    if method_of(parent) == "join" and is_text(parent.func.value):
        return True
    return calls_of(parent, WALKERS) and parent.args[0] is node


def changes(node, walked):
    if isinstance(node, ast.Call) and method_of(node) in CHANGES:
        return ast.dump(node.func.value) == walked
    if isinstance(node, ast.Subscript) and isinstance(node.ctx, ast.Store):
        return ast.dump(node.value) == walked
    return isinstance(node, ast.AugAssign) and ast.dump(node.target).replace("Store", "Load") == walked


def set_faults(node, tree):
    """A set stands straight within sorted or len, or beside a comparison: else it is kept or walked."""
    if isinstance(node, ast.Set):
        asked = isinstance(node.parent, ast.Compare) and isinstance(node.parent.ops[0], (ast.In, ast.NotIn))
        return ["L13"] * (len(node.elts) >= 3 and not asked) + ["L24"] * (not asked and not is_measured(node))
    if calls_of(node, ["set", "frozenset"]):
        return ["L24"] * (not is_measured(node))
    return []


def is_measured(node):
    parent = node.parent
    while isinstance(parent, ast.BinOp):
        parent = parent.parent
    return isinstance(parent, ast.Compare) or calls_of(parent, ["sorted", "len"]) and not parent.keywords


def calls_of(node, names):
    return isinstance(node, ast.Call) and isinstance(node.func, ast.Name) and node.func.id in names


def method_of(node):
    return node.func.attr if isinstance(node, ast.Call) and isinstance(node.func, ast.Attribute) else None


CHECKS = (
    form_faults, function_faults, class_faults, class_use_faults, error_faults, call_faults, walk_faults, set_faults,
)
