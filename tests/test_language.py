"""The package's files keep to the part of Python that the program is written in, as far as a walk can see it."""

import ast
import builtins
import pathlib
import re
import unittest

PACKAGE = pathlib.Path(__file__).resolve().parent.parent / "mustrows"

STATEMENTS = (
    ast.FunctionDef, ast.ClassDef, ast.ImportFrom, ast.Assign, ast.AugAssign, ast.If, ast.While, ast.For,
    ast.Return, ast.Break, ast.Continue, ast.Pass, ast.Raise, ast.Try, ast.Expr,
)
EXPRESSIONS = (
    ast.Constant, ast.Name, ast.List, ast.Tuple, ast.Dict, ast.Set, ast.BinOp, ast.UnaryOp, ast.Compare, ast.BoolOp,
    ast.IfExp, ast.Call, ast.Attribute, ast.Subscript, ast.Slice, ast.ListComp, ast.JoinedStr, ast.FormattedValue,
    ast.Lambda,
)
BUILTINS = """
    len range enumerate zip min max sum abs sorted reversed int str bool list tuple dict set frozenset isinstance ord
    repr any all divmod Exception ValueError TypeError KeyError IndexError LookupError ZeroDivisionError
    ArithmeticError OverflowError RuntimeError NotImplementedError AttributeError StopIteration
""".split()
METHODS = """
    append clear copy count endswith extend find get index insert isalnum isalpha isdigit islower isspace isupper items
    join keys ljust lower lstrip partition pop remove replace reverse rfind rjust rpartition rsplit rstrip setdefault
    split splitlines startswith strip update upper values zfill bit_length
""".split()
WORDS = """
    type typing typing_extensions enum Enum IntEnum StrEnum Flag IntFlag Generic Protocol ABC ABCMeta namedtuple
    NamedTuple TypedDict TYPE_CHECKING abstractmethod
""".split()
WALKED_AT_ONCE = ("zip", "enumerate", "reversed", "range")


def faults(text):
    """What the text of a file breaks, as pairs of a rule and a line."""
    return sorted(set(sign_faults(text) + tree_faults(ast.parse(text))))


def sign_faults(text):
    found = []
    lines = text.split("\n")
    for number, line in enumerate(lines, start=1):
        if len(line) > 120:
            found.append(("L10", number))
        if not re.fullmatch("[ -~]*", line):
            found.append(("L14", number))
        if set(re.findall(r"\w+", line)) & set(WORDS) or re.search("dataclass|overload|contextmanager", line):
            found.append(("L17", number))
    if len(lines) > 401:
        found.append(("L10", len(lines)))
    return found


def tree_faults(tree):
    top = names_of_the_top(tree)
    own = {node.name for node in ast.walk(tree) if isinstance(node, ast.FunctionDef)}
    own |= {node.attr for node in ast.walk(tree) if isinstance(node, ast.Attribute) and isinstance(node.ctx, ast.Store)}
    found = [("L3", node.lineno) for node in tree.body if not may_stand_at_the_top(node)]
    for node in ast.walk(tree):
        for rule, fault in (
            ("L6", isinstance(node, ast.stmt) and not isinstance(node, STATEMENTS)),
            ("L6", isinstance(node, ast.Expr) and not is_call_or_text(node.value)),
            ("L6", isinstance(node, ast.Assign) and len(node.targets) != 1),
            ("L6", isinstance(node, (ast.For, ast.While)) and bool(node.orelse)),
            ("L7", isinstance(node, ast.expr) and not isinstance(node, EXPRESSIONS)),
            ("L7", isinstance(node, ast.Div)),
            ("L7", isinstance(node, ast.Constant) and isinstance(node.value, (float, bytes))),
            ("L7", isinstance(node, ast.ListComp) and is_wide(node)),
            ("L10", isinstance(node, ast.FunctionDef) and node.end_lineno - node.lineno >= 40),
            ("L4", isinstance(node, (ast.FunctionDef, ast.ClassDef)) and bool(node.decorator_list)),
            ("L4", isinstance(node, (ast.FunctionDef, ast.Lambda)) and has_stars(node.args)),
            ("L16", isinstance(node, ast.ImportFrom) and not is_own_import(node)),
            ("L25", isinstance(node, ast.Attribute) and node.attr not in METHODS and node.attr not in own),
            ("L12", bool(re.match("_", bound_name(node)))),
            ("L15", bound_name(node) in dir(builtins)),
        ):
            if fault:
                found.append((rule, node.lineno if hasattr(node, "lineno") else 0))
    return found + name_faults(tree, top) + walk_faults(tree) + set_faults(tree)


def names_of_the_top(tree):
    names = []
    for node in tree.body:
        if isinstance(node, ast.ImportFrom):
            names.extend(alias.name for alias in node.names)
        elif isinstance(node, (ast.FunctionDef, ast.ClassDef)):
            names.append(node.name)
        elif isinstance(node, ast.Assign):
            names.extend(target.id for target in node.targets)
    return names


def may_stand_at_the_top(node):
    if isinstance(node, ast.Expr):
        return isinstance(node.value, ast.Constant) and isinstance(node.value.value, str)
    return isinstance(node, (ast.ImportFrom, ast.FunctionDef, ast.ClassDef, ast.Assign))


def is_call_or_text(node):
    return isinstance(node, ast.Call) or isinstance(node, ast.Constant) and isinstance(node.value, str)


def is_wide(node):
    return len(node.generators) != 1 or len(node.generators[0].ifs) > 1


def has_stars(arguments):
    return bool(arguments.vararg or arguments.kwarg or arguments.kwonlyargs or arguments.posonlyargs)


def is_own_import(node):
    plain = all(alias.name != "*" and alias.asname is None for alias in node.names)
    return node.level == 0 and node.module.startswith("mustrows.") and plain


def bound_name(node):
    if isinstance(node, ast.Name) and isinstance(node.ctx, ast.Store):
        return node.id
    return node.arg if isinstance(node, ast.arg) else ""


def name_faults(tree, top):
    """Names that are read and are neither the file's own nor among Python's own that are let by."""
    bound = set(top) | {bound_name(node) for node in ast.walk(tree)}
    bound |= {node.name for node in ast.walk(tree) if isinstance(node, (ast.FunctionDef, ast.ExceptHandler))}
    return [
        ("L8", node.lineno) for node in ast.walk(tree)
        if isinstance(node, ast.Name) and node.id not in bound and node.id not in BUILTINS
    ]


def calls_of(node, names):
    return isinstance(node, ast.Call) and isinstance(node.func, ast.Name) and node.func.id in names


def walk_faults(tree):
    walked = set()
    for node in ast.walk(tree):
        if isinstance(node, (ast.For, ast.comprehension)):
            walked.add(node.iter)
        elif calls_of(node, "list tuple dict sorted sum any all enumerate zip min max".split()) and node.args:
            walked.add(node.args[0])
    return [
        ("L23", node.lineno) for node in ast.walk(tree) if calls_of(node, WALKED_AT_ONCE) and node not in walked
    ]


def set_faults(tree):
    """A set stands straight within sorted or len, or beside a comparison: else it is kept or walked."""
    let_by = set()
    for node in ast.walk(tree):
        if calls_of(node, ("sorted", "len")) and not node.keywords:
            let_by.update(ast.walk(node.args[0]) if isinstance(node.args[0], ast.BinOp) else [node.args[0]])
        elif isinstance(node, ast.Compare):
            let_by.update([node.left] + node.comparators)
    return [("L24", node.lineno) for node in ast.walk(tree) if calls_of(node, ("set",)) and node not in let_by]


class Language(unittest.TestCase):
    def test_nothing_but_plain_files_lies_in_the_package(self):
        entries = [entry.name for entry in PACKAGE.iterdir() if entry.name != "__pycache__"]
        self.assertIn("__init__.py", entries)
        for entry in entries:
            self.assertRegex(entry, "^([a-z][a-z0-9_]*|__init__|__main__)[.]py$")

    def test_the_files_keep_to_the_rules(self):
        for path in sorted(PACKAGE.glob("*.py")):
            with self.subTest(file=path.name):
                self.assertEqual(faults(path.read_text(encoding="utf-8")), [])

    def test_what_breaks_a_rule_is_found(self):
        for rule, text in (
            ("L3", "print = 1\nprint(1)\n"),
            ("L4", "def told(*rows):\n    return rows\n"),
            ("L6", "def told(rows):\n    del rows[0]\n"),
            ("L6", "def told(rows):\n    one = other = rows\n    return one + other\n"),
            ("L7", "def told(rows):\n    return {row: True for row in rows}\n"),
            ("L7", "def told(count):\n    return count / 2\n"),
            ("L8", "def told(rows):\n    return iter(rows)\n"),
            ("L10", "def told():\n" + "    pass\n" * 40),
            ("L12", "def told(rows):\n    return [1 for _ in rows]\n"),
            ("L14", "# \u00e9\n"),
            ("L15", "def told(hash):\n    return hash\n"),
            ("L16", "import os\nfrom os import path\n"),
            ("L17", "# a type\n"),
            ("L23", "def told(rows):\n    pairs = zip(rows, rows)\n    return list(pairs)\n"),
            ("L24", "def told(rows):\n    return list(set(rows))\n"),
            ("L25", "def told(rows):\n    rows.sort()\n    return rows\n"),
        ):
            with self.subTest(rule=rule, text=text):
                self.assertIn(rule, [fault[0] for fault in faults(text)])


if __name__ == "__main__":
    unittest.main()
