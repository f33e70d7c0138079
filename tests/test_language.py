import os
import unittest

from language_rules import file_faults, source_faults

FOLDER = os.path.join(os.path.dirname(os.path.dirname(os.path.abspath(__file__))), "echopanes")

AGAINST_A_RULE = [
    ("L2", "import math\n"),
    ("L2", "from fractions import Fraction\n"),
    ("L2", "def f():\n    return 1\n\n\nfrom echopanes.base import given\n"),
    ("L3", "XS = [k for k in (1, 2)]\n"),
    ("L3", "print(1)\n"),
    ("L4", "def f(x, /):\n    return x\n"),
    ("L4", "def f(x=[]):\n    return x\n"),
    ("L5", "class Box:\n    many = []\n"),
    ("L5", "class Box(ValueError, LookupError):\n    pass\n"),
    ("L6", "def f():\n    global x\n    x = 1\n"),
    ("L6", "def f(xs):\n    try:\n        return 1\n    finally:\n        return 2\n"),
    ("L6", "def f(xs):\n    try:\n        return 1\n    finally:\n        xs.pop()\n"),
    ("L6", "def f(xs):\n    try:\n        return 1\n    finally:\n        xs.append(len(xs))\n"),
    ("L6", "def f(xs):\n    try:\n        y = 1\n    finally:\n        xs.append(y)\n"),
    ("L7", "def f(x):\n    return x / 2\n"),
    ("L7", "def f():\n    return 0.5\n"),
    ("L7", "def f(xs):\n    return any(x for x in xs)\n"),
    ("L8", "def f(x):\n    return pow(x, 2)\n"),
    ("L10", "def f():\n" + "    x = 1\n" * 41),
    ("L10", "X = 1\n" * 401),
    ("L10", "X = " + "1" * 120 + "\n"),
    ("L12", "def hidden():\n    _x = 1\n    return _x\n"),
    ("L14", "X = '\u00e9'\n"),
    ("L15", "X = 1\nX = 2\n"),
    ("L15", "def f(list):\n    return list\n"),
    ("L15", "from echopanes.base import given\n\n\ndef f(given):\n    return given\n"),
    ("L16", "from echopanes.base import missing\n"),
    ("L17", "# of this type\n"),
    ("L18", "from echopanes.base import Bad\n\n\ndef f():\n    return [Bad]\n"),
    ("L19", "def f():\n    try:\n        return 1\n    except ValueError:\n        return 2\n"),
    ("L19", "from echopanes.base import Bad\n\n\ndef f():\n    raise Bad\n"),
    ("L20", "def f(x, y):\n    return x is y\n"),
    ("L21", "def f(x: int):\n    return x\n"),
    ("L22", "def f(x):\n    return int(x, base=2)\n"),
    ("L22", "def f(xs):\n    size = len\n    return size(xs)\n"),
    ("L22", "from echopanes.base import given\n\n\ndef f():\n    return given(1)\n"),
    ("L22", "from echopanes.base import Bad\n\n\ndef f():\n    raise Bad(why=1)\n"),
    ("L22", "def f(a, *, b, c=1):\n    return a\n\n\ndef g():\n    return f(1, c=2)\n"),
    ("L22", "def f(a, *, b, c=1):\n    return a\n\n\ndef g():\n    return f(1, b=1, a=2)\n"),
    ("L22", "def f(a, *, b, c=1):\n    return a\n\n\ndef g():\n    return f(1, 2)\n"),
    ("L22", "class Box:\n    def __init__(self, a):\n        self.a = a\n\n\ndef f():\n    return Box()\n"),
    ("L22", "class Box:\n    def told(self, a=1):\n        return a\n\n    def f(self):\n        return self.told(1, 2)\n"),
    ("L23", "class Box:\n    def f(self):\n        for x in self.xs:\n            self.xs.append(x)\n"),
    ("L23", "def f(xs):\n    return [xs.pop() for x in xs]\n"),
    ("L23", "def f(xs):\n    ys = reversed(xs)\n    return list(ys)\n"),
    ("L23", "def f(xs):\n    for x in xs:\n        xs.append(x)\n"),
    ("L7", "def f(xs):\n    return {x for x in xs}\n"),
    ("L25", "def f(x):\n    return x.as_integer_ratio()\n"),
    ("L26", "class Box:\n    def decode(self):\n        return 1\n"),
    ("L27", "X = 'a%b'\n"),
    ("L27", "X = '\\x41'\n"),
    ("L12", "class Box:\n    def __hash__(self):\n        return 1\n"),
    ("L28", "class Box:\n    def __len__(self):\n        return self.many()\n"),
    ("L28", "class Box:\n    def __len__(self):\n        many = 1\n        return len([many])\n"),
    ("L28", "class Box:\n    def __eq__(self, other):\n        return self.xs.pop() == other\n"),
    ("L28", "class Box:\n    def __init__(self):\n        return None\n"),
]

BASE = "class Bad(ValueError):\n    pass\n\n\ndef given():\n    return 1\n"


def package_sources():
    sources = {}
    for name in sorted(os.listdir(FOLDER)):
        if name.endswith(".py"):
            with open(os.path.join(FOLDER, name), encoding="utf-8") as file:
                sources[name[:-3]] = file.read()
    return sources


class Language(unittest.TestCase):
    def test_the_folder(self):
        names = [name for name in os.listdir(FOLDER) if name != "__pycache__"]
        self.assertEqual(file_faults(sorted(names)), [])

    def test_the_files(self):
        self.assertEqual(source_faults(package_sources()), [])


class TheCheckItself(unittest.TestCase):
    def test_what_is_against_a_rule_is_found(self):
        self.assertEqual(source_faults({"base": BASE}), [])
        for rule, source in AGAINST_A_RULE:
            found = source_faults({"base": BASE, "sample": source})
            named = [fault for fault in found if rule in fault.split(" ")[0].split("/")]
            self.assertTrue(named, (rule, source, found))

    def test_right_calls_are_not_found(self):
        source = (
            "from echopanes.base import Bad, given\n\n\n"
            "def f(a, *, b, c=1):\n    return a\n\n\n"
            "class Box:\n"
            "    def __init__(self, size, *, first=1):\n        self.size = [size, first]\n\n"
            "    def told(self, many=1):\n        return many\n\n"
            "    def __eq__(self, other):\n        return isinstance(other, Box) and self.size == other.size\n\n"
            "    def __len__(self):\n        return len(self.size)\n\n\n"
            "def g():\n"
            "    box = Box(size=1)\n"
            "    other = Box(1, first=2)\n"
            "    if box == other:\n        raise Bad()\n"
            "    return [given(), f(1, b=2), f(c=1, b=2, a=3), box.told(), box.told(2), box.told(many=3)]\n"
        )
        self.assertEqual(source_faults({"base": BASE, "sample": source}), [])

    def test_a_right_finally_is_not_found(self):
        source = (
            "class Box:\n"
            "    def __init__(self):\n        self.seen = []\n\n"
            "    def told(self, word):\n        first = word[0]\n"
            "        try:\n            return first\n"
            "        finally:\n            self.seen.append((\"out\", first, word))\n"
        )
        self.assertEqual(source_faults({"base": BASE, "sample": source}), [])

    def test_imports_in_a_ring_are_found(self):
        ring = {
            "one": "from echopanes.two import b\n\n\ndef a():\n    return b()\n",
            "two": "from echopanes.one import a\n\n\ndef b():\n    return a()\n",
        }
        self.assertTrue(any(fault.startswith("L16") for fault in source_faults(ring)))

    def test_names_of_files(self):
        self.assertEqual(file_faults(["__init__.py", "rows.py"]), [])
        for name in ("Rows.py", "notes.txt", "test_rows.py", "sum.py", "a-b.py"):
            self.assertTrue(file_faults(["__init__.py", name]), name)
        self.assertTrue(file_faults(["rows.py"]))


if __name__ == "__main__":
    unittest.main()
