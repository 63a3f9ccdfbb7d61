"""The package's files keep to the part of Python that they are meant to keep to."""

import os
import re
import unittest

from language import drawn_from, faults, methods_and_values

PACKAGE = os.path.join(os.path.dirname(os.path.dirname(os.path.abspath(__file__))), "standstill")

OUTSIDE = (
    ("L2", "import os\n"),
    ("L2", "from os import path\n"),
    ("L2", "from .errors import NoRow\n"),
    ("L3", "for thing in (1, 2):\n    pass\n"),
    ("L4", "def f(*many):\n    return many\n"),
    ("L5", "class A:\n    value = 1\n"),
    ("L6", "def f(a):\n    with a:\n        pass\n"),
    ("L6", "def f():\n    a = b = 1\n    return a + b\n"),
    ("L6", "def f(a):\n    assert a\n"),
    ("L7", "def f(a):\n    return a / 2\n"),
    ("L7", "def f(a):\n    return {b for b in a}\n"),
    ("L7", "def f(a):\n    return all(b for b in a)\n"),
    ("L7", "A = 1.5\n"),
    ("L8", "def f(a):\n    return map(f, a)\n"),
    ("L10", "A = 1  # " + "a" * 120 + "\n"),
    ("L12", "def _f():\n    return 1\n"),
    ("L14", "A = 'a\tb'\n"),
    ("L15", "def f(next):\n    return next\n"),
    ("L15", "A = 1\nA = 2\n"),
    ("L15", "from standstill.marks import marks\n\n\ndef f(marks):\n    return marks\n"),
    ("L15", "from standstill.marks import marks\n\n\ndef f(a):\n    marks = a\n    return marks\n"),
    ("L15", "class A:\n    pass\n\n\ndef f(a):\n    return [A for A in a]\n"),
    ("L17", "# a type\n"),
    ("L17", "def f(a):\n    return a.elements\n"),
    ("L20", "def f(a, b):\n    return a is b\n"),
    ("L21", "def f(a: int):\n    return a\n"),
    ("L23", "def f(a):\n    b = enumerate(a)\n    return list(b)\n"),
    ("L23", "def f(a):\n    return a.items()\n"),
    ("L23", "def f(a):\n    for b in a:\n        a.append(b)\n"),
    ("L23", "def f(a):\n    for k, b in enumerate(a):\n        a[k] = b\n"),
    ("L23", "def f(a):\n    for k in a.keys():\n        a.pop(k)\n"),
    ("L24", "def f(a):\n    b = set(a)\n    return b\n"),
    ("L24", "def f(a):\n    return [b for b in set(a)]\n"),
    ("L24", "def f(a):\n    return sorted(set(a), key=len)\n"),
    ("L25", "def f(a):\n    a.sort()\n"),
    ("L26", "class A:\n    def __init__(self, items):\n        self.items = items\n"),
)

INSIDE = (
    "def f(a, b):\n    return len(set(a)) == len(a) and set(a) == set(b)\n",
    "def f(a, b):\n    return sorted(set(a) | set(b) - set([1]))\n",
    "def f(a):\n    for k in list(a):\n        a.pop(k)\n",
    "def f(a):\n    return sorted(a.values()) + [k for k in range(len(a))] + list(zip(a, a))\n",
)


class Language(unittest.TestCase):
    def test_only_plain_files(self):
        for name in sorted(os.listdir(PACKAGE)):
            if name != "__pycache__":
                self.assertRegex(name, re.compile(r"\A[a-z0-9_]+\.py\Z"))

    def test_files(self):
        for name in sorted(os.listdir(PACKAGE)):
            if name.endswith(".py"):
                with open(os.path.join(PACKAGE, name), encoding="utf-8", newline="") as file:
                    self.assertEqual((name, faults(file.read())), (name, []))

    def test_no_two_files_draw_from_one_another(self):
        drawn = {}
        for name in sorted(os.listdir(PACKAGE)):
            if name.endswith(".py"):
                with open(os.path.join(PACKAGE, name), encoding="utf-8") as file:
                    drawn[name.removesuffix(".py")] = drawn_from(file.read())
        while drawn:
            free = [name for name in drawn if not any(other in drawn for other in drawn[name])]
            self.assertTrue(free, drawn)
            for name in free:
                drawn.pop(name)

    def test_no_name_is_a_method_and_a_value(self):
        methods, values = set(), set()
        for name in sorted(os.listdir(PACKAGE)):
            if name.endswith(".py"):
                with open(os.path.join(PACKAGE, name), encoding="utf-8") as file:
                    more_methods, more_values = methods_and_values(file.read())
                methods |= more_methods
                values |= more_values
        self.assertIn("put", methods)
        self.assertIn("sheet", values)
        self.assertEqual(methods & values, set())

    def test_what_is_inside_is_let_be(self):
        for text in INSIDE:
            self.assertEqual((text, faults(text)), (text, []))

    def test_what_is_outside_is_seen(self):
        for rule, text in OUTSIDE:
            with self.subTest(text=text):
                self.assertTrue(any(fault.startswith(rule) for fault in faults(text)), faults(text))


if __name__ == "__main__":
    unittest.main()
