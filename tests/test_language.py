"""The package keeps to the rules of the language that a program can see."""

import ast
import pathlib
import re
import unittest

from language import breaches, class_names

PACKAGE = pathlib.Path(__file__).resolve().parent.parent / "poolmarks"

# Each text breaks the rule beside it, some of them others too.
WRONG = (
    ("import math\n", "L2"),
    ("from math import gcd\n", "L2"),
    ("from . import bounds\n", "L2"),
    ("from poolmarks.bounds import *\n", "L2"),
    ("A = 1\nfrom poolmarks.bounds import ROW\n", "L2"),
    ("A, B = 0, 1\n", "L3"),
    ("for k in range(3):\n    pass\n", "L3"),
    ("def area(width, /):\n    return width\n", "L4"),
    ("class Box:\n    def __hash__(self):\n        return 1\n", "L5"),
    ("def half(n):\n    return n / 2\n", "L6"),
    ("def half(n):\n    return n * 0.5\n", "L7"),
    ("def most(xs):\n    return any(x > 1 for x in xs)\n", "L7"),
    ("def f(x):\n    try:\n        x.pop()\n    finally:\n        x.pop()\n", "L6"),
    ("def f(x, y):\n    try:\n        x.pop()\n    finally:\n        y = x[0]\n", "L6"),
    ("def f(x):\n    raise ValueError(*x)\n", "L7"),
    ("def shown(x):\n    return hash(x)\n", "L8"),
    ("def sum(x):\n    return x\n", "L8"),
    ("def long():\n" + "    pass\n" * 40, "L10"),
    ("A = 1\n" * 400, "L10"),
    ("# " + "x" * 119 + "\n", "L10"),
    ("def hidden():\n    _ = 1\n", "L12"),
    ("# \u00e9\n", "L14"),
    ("A = 1\nA = 2\n", "L15"),
    ("from poolmarks.bounds import ROW\n\n\ndef f(ROW):\n    return ROW\n", "L15"),
    ("def f(x):\n    round = x\n    return round\n", "L15"),
    ("A = {}\n\n\ndef f():\n    return A\n", "L15"),
    ("A = []\n\n\ndef f(x):\n    A.append(x)\n", "L15"),
    ("A = {}\n\n\ndef f(x):\n    A[x] = 1\n", "L15"),
    ("# the type of a value\n", "L17"),
    ("def id(x):\n    return x\n", "L17"),
    ("def f(x):\n    raise x\n", "L19"),
    ("def f(x):\n    raise x.wrong()\n", "L19"),
    ("def f(x):\n    try:\n        x.pop()\n    except Exception:\n        pass\n", "L19"),
    ("def f(x):\n    try:\n        x.pop()\n    except (KeyError, TypeError):\n        pass\n", "L19"),
    ("def same(a, b):\n    return a is b\n", "L20"),
    ("def f(xs):\n    ys = reversed(xs)\n    return ys\n", "L23"),
    ("def g(xs):\n    return xs\n\n\ndef f(n):\n    return g(range(n))\n", "L23"),
    ("def f(d):\n    return d.items()\n", "L23"),
    ("def f(xs):\n    return xs.union(xs)\n", "L25"),
    ("A = '%'\n", "L27"),
    ("def power(n):\n    return 2 ** n\n", "L27"),
    ("class Box:\n    def __str__(self):\n        text = str(self.n)\n        return text\n", "L28"),
    ("class Box:\n    def __len__(self):\n        if self.n:\n            return 1\n", "L28"),
    ("class Box:\n    def __init__(self):\n        return None\n", "L28"),
)


def sources():
    return {path.stem: path.read_text(encoding="utf-8") for path in sorted(PACKAGE.glob("*.py"))}


def imports(source):
    """Yield (module, name) for each name that a file imports from the package."""
    for node in ast.parse(source).body:
        if isinstance(node, ast.ImportFrom) and node.module.startswith("poolmarks."):
            for alias in node.names:
                yield node.module.partition(".")[2], alias.name


def defined(source):
    for node in ast.parse(source).body:
        if isinstance(node, (ast.FunctionDef, ast.ClassDef)):
            yield node.name
        elif isinstance(node, ast.Assign):
            yield node.targets[0].id


class TestPackage(unittest.TestCase):
    def test_the_folder_holds_only_plain_files(self):
        names = [path.name for path in PACKAGE.iterdir() if path.name != "__pycache__"]
        self.assertIn("__init__.py", names)
        self.assertLessEqual(len(names), 100)
        for name in names:
            with self.subTest(name=name):
                self.assertTrue(re.fullmatch(r"[a-z][a-z0-9_]*\.py|__init__\.py", name))

    def names(self, wanted):
        """Return the names of all methods or of all attributes of the package."""
        pairs = [pair for source in sources().values() for pair in class_names(ast.parse(source))]
        return {name for kind, name in pairs if kind == wanted}

    def test_no_file_breaks_a_rule(self):
        for name, source in sources().items():
            with self.subTest(name=name):
                self.assertEqual(breaches(source, methods=self.names("method")), [])

    def test_imports_name_the_file_that_defines_the_name(self):
        found = sources()
        for name, source in found.items():
            for module, wanted in imports(source):
                with self.subTest(name=name, wanted=wanted):
                    self.assertIn(wanted, list(defined(found[module])))

    def test_no_two_files_import_from_each_other(self):
        left = {name: {module for module, wanted in imports(source)} for name, source in sources().items()}
        while left:
            free = [name for name in left if not left[name] & set(left)]
            self.assertTrue(free, f"these import from each other: {sorted(left)}")
            for name in free:
                del left[name]


    def test_no_name_is_a_method_and_an_attribute(self):
        methods, attributes = self.names("method"), self.names("attribute")
        self.assertIn("rating", methods)
        self.assertIn("item", attributes)
        self.assertEqual(methods & attributes, set())


class TestBreaches(unittest.TestCase):
    def test_wrong_texts_are_found(self):
        for source, rule in WRONG:
            with self.subTest(source=source):
                self.assertIn(rule, breaches(source))

    def test_a_right_text_is_not_found(self):
        source = '"""A box."""\n\nfrom poolmarks.bounds import ROW\n\nA = 10 ** 9\n\n\ndef f(x):\n    return x is None\n'
        self.assertEqual(breaches(source), [])


if __name__ == "__main__":
    unittest.main()
