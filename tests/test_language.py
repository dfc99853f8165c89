"""The package's own files keep to LANGUAGE.md, as far as tests/language.py can see."""

import pathlib
import re
import unittest

from language import defined_in, drawn_from, faults, methods_in, values_in

PACKAGE = pathlib.Path(__file__).resolve().parent.parent / "termcourt"
RULED_OUT = (
    "import sys\n",
    "from os import path\n",
    "from termcourt.errors import *\n",
    "print(1)\n",
    "if 1:\n    pass\n",
    "ONE = 1\nONE = 2\n",
    "HALF = 1 / 2\n",
    "HALF = 0.5\n",
    "TEXT = b'a'\n",
    "TEXT = 'a%b'\n",
    "# \u00e9\n",
    "# a\tb\n",
    "# the type of it\n",
    "# " + "x" * 120 + "\n",
    "# x\n" * 401,
    "def one():\n" + "    one()\n" * 40,
    "def one(*rest):\n    return rest\n",
    "def one(**rest):\n    return rest\n",
    "def one(x):\n    yield x\n",
    "def one(x):\n    assert x\n",
    "def one(x):\n    with x:\n        pass\n",
    "def one(x):\n    x\n",
    "def one(x):\n    return (y for y in x)\n",
    "def one(x):\n    return {y for y in x}\n",
    "def one(x):\n    return [y for z in x for y in z]\n",
    "def one(x):\n    return x is 1\n",
    "def one(x):\n    return x.sort()\n",
    "def one(x):\n    return x.format(1)\n",
    "def one(x):\n    return hash(x)\n",
    "def one(x):\n    return chr(x)\n",
    "def one(max):\n    return 1\n",
    "def max(one):\n    return 1\n",
    "def one(x):\n    return x.register\n",
    "def one(x):\n    return x._y\n",
    "def one(os):\n    return 1\n",
    "def one(x):\n    _y = x\n    return 1\n",
    "def one(x):\n    return 2 ** x\n",
    "def one(x):\n    return f'{x + 1}'\n",
    "def one(x):\n    y = z = x\n    return 1\n",
    "def one(x):\n    for y in x:\n        pass\n    else:\n        pass\n",
    "def one(x):\n    try:\n        one(x)\n    except Exception:\n        pass\n",
    "def one(x):\n    try:\n        one(x)\n    finally:\n        pass\n",
    "from termcourt.stretches import place\ndef one(place):\n    return place\n",
    "from termcourt.stretches import place\ndef one(x):\n    place = x\n    return place\n",
    "class One:\n    pass\ndef two(x):\n    for One in x:\n        pass\n",
    "class One:\n    two = 1\n",
    "class One(list, dict):\n    pass\n",
    "class One:\n    def two(self):\n        pass\n    def two(self):\n        pass\n",
)
ALLOWED = (
    "from __future__ import annotations\n",
    "MOST = 1\nNAMES = ('a', 'b')\n",
    "MOST: int = 1\n",
    "class One:\n    def next(self):\n        return 1\n",
    "class One:\n    def __init__(self, two):\n        self.id = two\n",
    "class One(ValueError):\n    pass\n",
    "def one(x):\n    return x is None or x.items() == 7 % x\n",
    "def one(x):\n    return f'{x}' + f'{x!r}'\n",
    "def one(x):\n    try:\n        one(x)\n    except KeyError as e:\n        raise ValueError('x') from e\n",
)


def texts():
    """The package's modules by their full names, with their texts."""
    return {f"termcourt.{path.stem}": path.read_text(encoding="utf-8") for path in sorted(PACKAGE.glob("*.py"))}


class Package(unittest.TestCase):
    def test_nothing_but_files_of_plain_names_lies_in_it(self):
        names = sorted(path.name for path in PACKAGE.iterdir() if path.name != "__pycache__")
        self.assertIn("__init__.py", names)
        for name in names:
            self.assertRegex(name, re.compile(r"\A([a-z][a-z0-9_]*|__init__|__main__)\.py\Z"))

    def test_each_file_keeps_to_the_rules(self):
        for module, text in texts().items():
            with self.subTest(module=module):
                self.assertEqual(faults(text), [])

    def test_names_are_drawn_from_the_file_that_defines_them(self):
        modules = texts()
        for module, text in modules.items():
            for source, names in drawn_from(text):
                with self.subTest(module=module, source=source):
                    self.assertLessEqual(set(names), set(defined_in(modules[source])))

    def test_no_two_files_draw_from_one_another(self):
        left = {module: {source for source, names in drawn_from(text)} for module, text in texts().items()}
        while left:
            free = [module for module, sources in left.items() if not sources & set(left)]
            self.assertTrue(free, sorted(left))
            for module in free:
                left.pop(module)

    def test_no_name_is_a_method_in_one_class_and_a_value_in_another(self):
        methods = set().union(*[methods_in(text) for text in texts().values()])
        values = set().union(*[values_in(text) for text in texts().values()])
        self.assertIn("is_free", methods)
        self.assertIn("names", values)
        self.assertEqual(methods & values, set())


class TheLook(unittest.TestCase):
    def test_what_is_ruled_out_is_seen(self):
        for text in RULED_OUT:
            with self.subTest(text=text):
                self.assertNotEqual(faults(text), [])

    def test_what_is_allowed_is_let_be(self):
        for text in ALLOWED:
            with self.subTest(text=text):
                self.assertEqual(faults(text), [])


if __name__ == "__main__":
    unittest.main()
