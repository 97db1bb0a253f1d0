"""The package's files keep to the part of Python that the program is written in."""

import pathlib
import unittest

from language import faults, package_faults

PACKAGE = pathlib.Path(__file__).resolve().parent.parent / "mustrows"

BROKEN = (
    ("L2", "def told():\n    from mustrows.sample import told\n    return told\n"),
    ("L2", "import os\n"),
    ("L3", "print = 1\nprint(1)\n"),
    ("L3", "NUMBER = len('abc')\n"),
    ("L3", "'a'\n'b'\n"),
    ("L4", "def told(*rows):\n    return rows\n"),
    ("L4", "def told(rows, *, count):\n    return rows\n"),
    ("L4", "def told(rows=len('a')):\n    return rows\n"),
    ("L5", "class Told:\n    count = 1\n"),
    ("L5", "class One:\n    pass\n\n\nclass Two:\n    pass\n\n\nclass Told(One, Two):\n    pass\n"),
    ("L6", "def told(rows):\n    del rows[0]\n"),
    ("L6", "def told(rows):\n    one = other = rows\n    return one + other\n"),
    ("L6", "def told(rows):\n    one, other = rows\n    return one + other\n"),
    ("L6", "def told(rows):\n    for row in rows:\n        pass\n    else:\n        pass\n"),
    ("L6", "def told(rows):\n    assert rows\n"),
    ("L6", "def told(rows):\n    yield rows\n"),
    ("L7", "def told(rows):\n    return {row: True for row in rows}\n"),
    ("L7", "def told(rows):\n    return all(row for row in rows)\n"),
    ("L7", "def told(count):\n    return count / 2\n"),
    ("L7", "def told(rows):\n    return [*rows]\n"),
    ("L7", "def told(rows):\n    return [one for row in rows for one in row]\n"),
    ("L7", "def told(rows):\n    return f'{rows[0]}'\n"),
    ("L7", "def told():\n    return 1.5\n"),
    ("L8", "def told(rows):\n    return iter(rows)\n"),
    ("L8", "def told(rows):\n    print(rows)\n"),
    ("L8", "def told(number):\n    return chr(number)\n"),
    ("L10", "def told():\n" + "    pass\n" * 40),
    ("L10", "# " + "a" * 119 + "\n"),
    ("L10", "# a\n" * 401),
    ("L12", "def told(rows):\n    return [1 for _ in rows]\n"),
    ("L12", "def _told(rows):\n    return rows\n"),
    ("L13", "def told(one):\n    return one in (1, 2) or {1, 2, 3} == one\n"),
    ("L13", "def told(rows):\n    return [lambda one: 1, lambda one: 2]\n"),
    ("L14", "# \u00e9\n"),
    ("L14", "# a\tb\n"),
    ("L15", "def told(hash):\n    return hash\n"),
    ("L15", "def told():\n    pass\n\n\ndef told():\n    pass\n"),
    ("L15", "ROWS = [[1], 2]\n"),
    ("L15", "ROWS = [1]\n\n\ndef told(one):\n    ROWS.append(one)\n"),
    ("L15", "ROWS = [1]\n\n\ndef told(one):\n    ROWS[0] = one\n"),
    ("L15", "ROWS = [1]\n\n\ndef told():\n    return ROWS\n"),
    ("L15", "class Told:\n    pass\n\n\ndef told(Told):\n    return Told\n"),
    ("L15", "def told():\n    class Told:\n        pass\n    return Told()\n"),
    ("L16", "from os import path\n"),
    ("L16", "from mustrows.other import told\n"),
    ("L16", "from mustrows.sample import told\n\n\ndef told():\n    pass\n"),
    ("L17", "# a type\n"),
    ("L17", "def told(rows):\n    return rows.open()\n"),
    ("L18", "class Told:\n    pass\n\n\ndef told():\n    return [Told]\n"),
    ("L18", "class Told:\n    pass\n\n\ndef told():\n    Told.count = 1\n"),
    ("L18", "class Told(StopIteration):\n    pass\n"),
    ("L18", "class Told:\n    def one(self):\n        pass\n\n\ndef told(row):\n    row.one = 1\n"),
    ("L19", "def told(rows):\n    try:\n        return rows[0]\n    except Exception:\n        return None\n"),
    ("L19", "def told(rows):\n    try:\n        return told(rows)\n    except ValueError:\n        return None\n"),
    ("L19", "def told(error):\n    raise error\n"),
    ("L20", "def told(one, other):\n    return one is other\n"),
    ("L20", "def told(one):\n    return one is 1\n"),
    ("L21", "def told(rows: list):\n    return rows\n"),
    ("L22", "def told(rows):\n    return [len, rows]\n"),
    ("L22", "def told(rows):\n    return list(rows, key=len)\n"),
    ("L22", "def told(rows):\n    return rows.index(other=1)\n"),
    ("L23", "def told(rows):\n    pairs = zip(rows, rows)\n    return list(pairs)\n"),
    ("L23", "def told(rows):\n    keys = rows.keys()\n    return list(keys)\n"),
    ("L23", "def told(rows):\n    for row in rows:\n        rows.append(row)\n"),
    ("L23", "def told(rows):\n    for place, row in enumerate(rows):\n        rows[place] = row\n"),
    ("L24", "def told(rows):\n    return list(set(rows))\n"),
    ("L24", "def told(rows):\n    seen = {1}\n    return seen\n"),
    ("L25", "def told(rows):\n    rows.sort()\n    return rows\n"),
    ("L25", "def told(rows):\n    return rows.append\n"),
    ("L26", "def told(row):\n    row.items = 1\n"),
    ("L26", "class Told:\n    def title(self):\n        return 1\n"),
    ("L27", "def told(count):\n    return 2 ** count\n"),
    ("L27", "def told():\n    return 'a%b'\n"),
    ("L27", "def told():\n    return '\\x41'\n"),
    ("L28", "class Told:\n    def __init__(self):\n        return None\n"),
    ("L28", "class Told:\n    def __len__(self):\n        return 1\n"),
)

KEPT = """\"\"\"A file that keeps to the rules.\"\"\"

LIMIT = -4
WORDS = ["one", "two"]


class Refused(ValueError):
    pass


class Heap:
    def __init__(self, rows):
        self.rows = list(rows)

    def taken(self):
        if not self.rows:
            raise Refused("no rows")
        return self.rows.pop()


def told(rows, most=2):
    found = {}
    for place, row in enumerate(rows):
        if row in WORDS and place < most and row is not None:
            found[row] = place
    for word in sorted(set(rows)):
        found.setdefault(word, LIMIT)
    try:
        number = int("a\\n")
    except ValueError:
        number = 2 ** 3
    return [f"{key}: {value!r}" for key, value in found.items() if isinstance(value, int) and value != number]


def least(rows):
    return min(rows, key=lambda row: (len(row), row), default=None)
"""


class Language(unittest.TestCase):
    def test_nothing_but_plain_files_lies_in_the_package(self):
        entries = [entry.name for entry in PACKAGE.iterdir() if entry.name != "__pycache__"]
        self.assertIn("__init__.py", entries)
        for entry in entries:
            self.assertRegex(entry, "^([a-z][a-z0-9_]*|__init__|__main__)[.]py$")

    def test_the_files_keep_to_the_rules(self):
        paths = sorted(PACKAGE.glob("*.py"))
        texts = {f"mustrows.{path.stem}": path.read_text(encoding="utf-8") for path in paths}
        self.assertEqual(package_faults(texts), [])
        for path in paths:
            self.assertNotIn(b"\r", path.read_bytes())

    def test_what_breaks_a_rule_is_found(self):
        for rule, text in BROKEN:
            with self.subTest(rule=rule, text=text):
                self.assertIn(rule, faults(text))

    def test_what_keeps_the_rules_is_let_by(self):
        self.assertEqual(faults(KEPT), [])

    def test_files_that_draw_from_one_another_are_found(self):
        one = "from mustrows.two import two\n\n\ndef one():\n    return two()\n"
        two = "from mustrows.one import one\n\n\ndef two():\n    return one()\n"
        found = package_faults({"mustrows.one": one, "mustrows.two": two})
        self.assertEqual([fault for fault in found if fault[2] == "L16"], [
            ("mustrows.one", 0, "L16"), ("mustrows.two", 0, "L16"),
        ])

    def test_names_of_files(self):
        for module in ("mustrows.Told", "mustrows.test_told", "mustrows.sum", "mustrows.site", "mustrows.typing"):
            with self.subTest(module=module):
                self.assertIn("L14", faults("", module))


if __name__ == "__main__":
    unittest.main()
