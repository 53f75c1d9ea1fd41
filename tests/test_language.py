"""The rules of the language that a script can see hold for the package, and the script sees what breaks them."""

import tempfile
import unittest
from pathlib import Path

from language import check_package, check_source

PACKAGE = Path(__file__).resolve().parent.parent / "clashsize"


class Package(unittest.TestCase):
    def test_the_package_keeps_the_rules(self):
        self.assertEqual(check_package(PACKAGE), [])

    def test_the_files_are_there(self):
        found = {path.name for path in PACKAGE.glob("*.py")}
        self.assertLessEqual({"__init__.py", "errors.py", "kinds.py", "knots.py", "parts.py", "worlds.py", "families.py",
                              "changes.py", "clashes.py", "moves.py", "ways.py", "tights.py", "leasts.py", "sights.py",
                              "wholes.py", "ranges.py", "parties.py", "board.py", "texts.py", "console.py"}, found)


class Sources(unittest.TestCase):
    def check(self, text, rule):
        found = check_source(text)
        self.assertTrue([complaint for complaint in found if complaint.startswith(rule)], (text, found))

    def test_plain_sources(self):
        for text in ["", '"""About type and enum."""\n', "def low(row):\n    return type(row) == int\n",
                     "# An Enum: not used.\nLIMIT = 3\n", "def f(x):\n    for _ in range(3):\n        x = x // 2\n    return x\n",
                     "class Box:\n    def __init__(self, n):\n        self.n = n\n", "X = '" + "x" * 114 + "'\n"]:
            self.assertEqual(check_source(text), [], text)

    def test_sizes(self):
        self.assertEqual(check_source("\n" * 399), [])
        self.check("\n" * 400, "L10")
        self.check("X = '" + "x" * 115 + "'\n", "L10")
        self.assertEqual(check_source("def f(x):\n" + "    x = 1\n" * 39), [])
        self.check("def f(x):\n" + "    x = 1\n" * 40, "L10")
        self.check("def f(x):\n\treturn x\n", "L10")

    def test_signs(self):
        for sign in ("\u00e9", "\u20ac", "\x0c", "\r", "\x7f"):
            self.check(f"# {sign}\n", "L14")

    def test_names(self):
        for text in ["def law(x):\n    return x\n", "def f(x):\n    return x.elements\n", "def f(f_back):\n    return 1\n",
                     "def f(x):\n    id = 1\n    return x\n", "os = 3\n", "def f(x):\n    return g(open=x)\n",
                     "def g(sys):\n    return 1\n", "def f(x):\n    return x.__class__.mro\n"]:
            self.check(text, "L17")
        for text in ["def _wall_x(x):\n    return x\n", "def f(__x):\n    return 1\n", "def f(_9):\n    return 1\n"]:
            self.check(text, "L12")
        for text in ["def f(min):\n    return 1\n", "def f(x):\n    hash = x\n    return x\n", "def round(x):\n    return x\n",
                     "A = 1\nA = 2\n", "from math import gcd\ndef f(gcd):\n    return 1\n",
                     "class A:\n    pass\ndef f(x):\n    A = x\n    return x\n"]:
            self.check(text, "L15")

    def test_words(self):
        for text in ["X = 'an enum'\n", "def f(x):\n    return namedtuple\n", "X = 'mydataclasses'\n",
                     "def f(x):\n    return g(type)\n", "def f(x):\n    return x.ABC\n"]:
            self.check(text, "L17")

    def test_builtins(self):
        for text in ["def f(x):\n    return round(x)\n", "def f(x):\n    return chr(x)\n", "def f(x):\n    print(x)\n",
                     "def f(x):\n    return filter(None, x)\n"]:
            self.check(text, "L8")
        for text in ["X = 1.5\n", "def f(x):\n    return x / 2\n", "def f(x):\n    x /= 2\n"]:
            self.check(text, "L7")


    def test_classes(self):
        for text in ["@cache\ndef f(x):\n    return x\n", "class A:\n    @cached\n    def f(self):\n        return 1\n"]:
            self.check(text, "L4")
        for text in ["@dataclasses\nclass A:\n    pass\n", "class A:\n    def __hash__(self):\n        return 1\n"]:
            self.check(text, "L5")
        text = "class A:\n    @property\n    def n(self):\n        return 1\n\n    def __len__(self):\n        return 1\n"
        self.assertEqual(check_source(text), [])

    def test_stars(self):
        for text in ["def f(x):\n    return list(zip(*g(x)))\n", "def f(x):\n    return f(*x[0])\n",
                     "def f(x):\n    return f(**g(x))\n"]:
            self.check(text, "L7")
        self.assertEqual(check_source("def f(x):\n    return [f(*x), f(*x.rows), f(*[x, 1]), f(**x)]\n"), [])

    def test_generator_expressions(self):
        for name in ("any", "all", "sum", "sorted", "min", "max"):
            self.check(f"def f(x):\n    return {name}(y for y in x)\n", "L7")
            self.assertEqual(check_source(f"def f(x):\n    return {name}([y for y in x])\n"), [])
        self.assertEqual(check_source("def f(x):\n    return tuple(y for y in x)\n"), [])


class Folders(unittest.TestCase):
    def complaints(self, files, name="pack"):
        with tempfile.TemporaryDirectory() as place:
            folder = Path(place) / name
            for path, text in {"__init__.py": "", **files}.items():
                if text is not None:
                    (folder / path).parent.mkdir(parents=True, exist_ok=True)
                    (folder / path).write_bytes(text.encode("utf-8"))
            if files.get("__init__.py", "") is None:
                (folder / "__init__.py").unlink(missing_ok=True)
            return check_package(folder)

    def check(self, files, rule, name="pack"):
        found = self.complaints(files, name)
        self.assertTrue([complaint for complaint in found if rule in complaint], (files, found))

    def test_plain_folders(self):
        for files in [{}, {"a.py": "X = 1\n", "b.py": "from pack.a import X\n"}, {"a.py": "from math import gcd, lcm\n"},
                      {"__main__.py": "import sys\n"}, {"sub/__init__.py": "", "sub/a.py": "X = 1\n"},
                      {"a.py": "from __future__ import annotations\n"}, {"__pycache__/a.pyc": ""},
                      {"size.py": "def size(x):\n    return x\n", "__init__.py": "from pack.size import size\n"}]:
            self.assertEqual(self.complaints(files), [], files)

    def test_files(self):
        for files in [{"notes.txt": ""}, {"data.json": "{}"}]:
            self.check(files, "L1")
        for files in [{"Big.py": ""}, {"test_a.py": ""}, {"tests/__init__.py": ""}, {"law_a.py": ""}, {"sum.py": ""},
                      {"enum.py": ""}, {"sub/a.py": ""}, {"a.py": "", "a/__init__.py": ""}, {"a-b.py": ""},
                      {"sub/__init__.py": "", "sub/__main__.py": ""}, {"math.py": ""}, {"open.py": ""}]:
            self.check(files, "L14")
        self.check({f"a{at}.py": "" for at in range(100)}, "L14")
        self.check({}, "L14", name="json")

    def test_imports(self):
        for text in ["from os import path\n", "from .b import X\n", "from pack.b import *\n", "from math import sqrt\n",
                     "from math import gcd as g\n", "X = 1\nfrom pack.b import Y\n", "from itertools import cycle\n",
                     "def f(x):\n    from pack.b import Y\n    return Y\n", "from pack.c import X\n",
                     "from pack.__main__ import X\n"]:
            self.check({"a.py": text, "b.py": "Y = 1\nX = 2\n", "__main__.py": "X = 1\n"}, "L2")

    def test_imports_name_the_file_that_defines(self):
        for text in ["import pack.b\n", "import sys\n", "import pack.b as b\n", "from pack import b\n",
                     "from pack.b import X\n", "from pack.b import Z\n"]:
            self.check({"a.py": text, "b.py": "from pack.c import X\nY = 1\n", "c.py": "X = 1\n"}, "L16")

    def test_no_circles(self):
        self.check({"a.py": "from pack.b import Y\nX = 1\n", "b.py": "from pack.a import X\nY = 1\n"}, "L16")
        self.check({"a.py": "from pack.b import Y\nX = 1\n", "b.py": "from pack.c import Z\nY = 1\n",
                    "c.py": "from pack.a import X\nZ = 1\n"}, "L16")
        self.check({"__init__.py": "from pack.size import size\n", "size.py": "from pack.b import X\nsize = 1\n",
                    "b.py": "X = 1\n"}, "L16")

    def test_a_package_binds_no_name_of_a_file(self):
        self.check({"__init__.py": "a = 1\n", "a.py": ""}, "L16")
        self.check({"__init__.py": "from pack.b import a\n", "a.py": "", "b.py": "a = 1\n"}, "L16")


if __name__ == "__main__":
    unittest.main()
