"""The form of the code: LANGUAGE.md, as far as a script can look it up."""

import pathlib
import unittest

from language import faults_of

PACKAGE = pathlib.Path(__file__).resolve().parent.parent / "drawnbits"
FRAME = '"""A file."""\n\nfrom drawnbits.other import Bad, told\n\nMANY = 3\n\n\n'
OTHER = '"""Another file."""\n\n\nclass Bad(Exception):\n    """An error."""\n\n\ndef told(x):\n    return x\n'
# Each wrong piece of code with the rule that it breaks.
WRONG = (
    ("L7", "def f(x):\n    return f'{x:>5}'\n"),
    ("L7", "def f(x):\n    return f'{x!a}'\n"),
    ("L19", "def f(x):\n    try:\n        return x[0]\n    except Exception:\n        return 1\n"),
    ("L19", "def f(x):\n    try:\n        return x[0]\n    except:\n        return 1\n"),
    ("L24", "def f(x):\n    return list(set(x))\n"),
    ("L2", "def f(x):\n    from drawnbits.other import y\n    return y\n"),
    ("L2", "from drawnbits.other import told\n"),
    ("L16", None, "from os import path\n"),
    ("L16", None, "from math import sqrt\n"),
    ("L16", None, "from drawnbits.other import nothing\n"),
    ("L16", None, "from .other import told\n"),
    ("L16", None, "from drawnbits.other import told as t\n"),
    ("L6", None, "import math\n"),
    ("L16", None, "from drawnbits.file import f\n\n\ndef f():\n    return 1\n"),
    ("L3", "print(MANY)\n"),
    ("L3", "A, B = 1, 2\n"),
    ("L3", "A = 1.5\n"),
    ("L3", "A = told(1)\n"),
    ("L15", "MANY = 4\n"),
    ("L15", "def f(len):\n    return len\n"),
    ("L15", "def f(x):\n    told = x\n    return told\n"),
    ("L15", "def f(x):\n    sum = x\n    return sum\n"),
    ("L15", "def f(x):\n    class A:\n        pass\n    return x\n"),
    ("L4", "def f(x=[]):\n    return x\n"),
    ("L4", "def f(x, y=told(1)):\n    return x\n"),
    ("L4", "@told\ndef f(x):\n    return x\n"),
    ("L5", "class A:\n    def __hash__(self):\n        return 1\n"),
    ("L5", "class A:\n    for x in ():\n        pass\n"),
    ("L6", "def f(x):\n    global y\n    y = x\n"),
    ("L6", "def f(x):\n    return x / 2\n"),
    ("L7", "def f(x):\n    return x * 0.5\n"),
    ("L7", "def f(x):\n    y = (k for k in x)\n    return list(y)\n"),
    ("L8", "def f(x):\n    return hash(x)\n"),
    ("L8", "def f(x):\n    return round(x)\n"),
    ("L8", "def f(x):\n    return chr(x)\n"),
    ("L8", "def f(x):\n    return x.__class__\n"),
    ("L10", "def f(x):\n" + "    x = x + 1\n" * 39 + "    return x\n"),
    ("L10", "A = 1\n# " + "x" * 119 + "\n"),
    ("L10", "# x\n" * 400),
    ("L12", "def f(_wall):\n    return 1\n"),
    ("L12", "def f(_Sre, _sre_x):\n    return 1\n"),
    ("L14", "# caf\u00e9\n"),
    ("L14", "# a\tb\n"),
    ("L17", "def f(x):\n    return 'type'\n"),
    ("L17", "def f(overloaded):\n    return 1\n"),
    ("L17", "A = 'f_code'\n"),
    ("L15", "def f(register):\n    return 1\n"),
    ("L19", "def f(x):\n    raise ValueError(x)\n"),
    ("L19", "def f(x):\n    raise told(x)\n"),
    ("L20", "def f(x, y):\n    return x is y\n"),
    ("L20", "def f(x):\n    return x is 1\n"),
    ("L21", "def f(x: int):\n    return x\n"),
    ("L21", "def f(x) -> int:\n    return x\n"),
    ("L22", "def f(x):\n    return sorted(x, default=1)\n"),
    ("L22", "def f(x):\n    y = len\n    return y(x)\n"),
    ("L23", "def f(x):\n    y = zip(x, x)\n    return list(y)\n"),
    ("L23", "def f(x):\n    return reversed(x)\n"),
    ("L25", "def f(x):\n    return x.popitem()\n"),
    ("L25", "def f(x):\n    return x.split(sep=1)\n"),
    ("L27", "def f(x):\n    return 2 ** x\n"),
    ("L27", "def f(x):\n    return 2 ** 65\n"),
    ("L27", "A = 'a%b'\n"),
    ("L27", "A = 'a\\x41'\n"),
    ("L27", "A = '__odd__'\n"),
    ("L27", "A = 1if 1else 2\n"))
RIGHT = """def f(x, y=2):
    try:
        return f"{told(x)} of {y}"
    except (Bad, KeyError):
        pass
    rows = [told(k) ** 3 for k in range(MANY) if k in x]
    for k, row in enumerate(rows):
        x.append((k, row))
    if not isinstance(y, int) or y is None:
        raise Bad(y)
    return sorted(x, reverse=True)
"""


def rules(files):
    return set([fault.split(" ")[0] for fault in faults_of(files)])


class LanguageTest(unittest.TestCase):
    def test_package(self):
        files = {}
        for path in sorted(PACKAGE.rglob("*")):
            if "__pycache__" not in path.parts and path.is_file():
                files[str(path.relative_to(PACKAGE))] = path.read_bytes().decode("utf-8")
        self.assertIn("tables.py", files)
        self.assertEqual(faults_of(files), [])

    def test_no_tests_inside(self):
        for path in PACKAGE.rglob("*"):
            self.assertNotIn("test", path.name)

    def test_right_code_passes(self):
        self.assertEqual(faults_of({"__init__.py": "", "other.py": OTHER, "file.py": FRAME + RIGHT}), [])

    def test_wrong_code_is_told(self):
        for rule, body, *whole in WRONG:
            text = FRAME + body if body is not None else '"""A file."""\n\n' + whole[0]
            with self.subTest(rule=rule, text=text[-60:]):
                self.assertIn(rule, rules({"__init__.py": "", "other.py": OTHER, "file.py": text}))

    def test_wrong_files_are_told(self):
        for rule, name in (("L1", "Big.py"), ("L1", "notes.txt"), ("L14", "test_it.py"), ("L14", "sum.py"),
                           ("L14", "typing.py"), ("L14", "math.py")):
            with self.subTest(name):
                self.assertIn(rule, rules({"__init__.py": "", name: ""}))
        self.assertIn("L14", rules({"file.py": ""}))


if __name__ == "__main__":
    unittest.main()
