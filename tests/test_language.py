import ast
import pathlib
import re
import unittest

import language

FOLDER = pathlib.Path(__file__).resolve().parent.parent / language.PACKAGE
FILES = sorted(path for path in FOLDER.rglob("*") if "__pycache__" not in path.parts)


def own_modules():
    modules = {}
    for path in FILES:
        tree = ast.parse(path.read_text(encoding="utf-8"))
        defined = [node for node in tree.body if not isinstance(node, ast.ImportFrom)]
        modules[f"{language.PACKAGE}.{path.stem}"] = language.bound_at_top(ast.Module(defined, []))
    return modules


def drawn_from(path):
    tree = ast.parse(path.read_text(encoding="utf-8"))
    return [node.module.rpartition(".")[2] for node in tree.body if isinstance(node, ast.ImportFrom)]


class TheFiles(unittest.TestCase):
    def test_names(self):
        for path in FILES:
            self.assertTrue(path.is_file(), path)
            self.assertTrue(re.fullmatch(r"__init__\.py|[a-z][a-z0-9_]*\.py", path.name), path)
            self.assertNotIn(path.stem, language.FILES_OUT)
            self.assertFalse(path.stem.startswith("test_"), path)

    def test_there_is_an_init_that_binds_nothing(self):
        self.assertEqual(own_modules()[f"{language.PACKAGE}.__init__"], [])

    def test_each_is_within_the_rules(self):
        modules = own_modules()
        for path in FILES:
            self.assertEqual(language.faults(path.read_text(encoding="utf-8"), modules), [], path)

    def test_none_draws_from_itself_in_any_number_of_steps(self):
        drawn = {path.stem: drawn_from(path) for path in FILES}
        while drawn:
            settled = [stem for stem, sources in drawn.items() if not set(sources) & set(drawn)]
            self.assertTrue(settled, drawn)
            for stem in settled:
                del drawn[stem]


BROKEN = [
    ("L3", "import math"), ("L16", "from math import pi"), ("L16", "from bracketnumbers.rows import NoPlace"),
    ("L3", "print(1)"), ("L3", "x = len([])"), ("L3", "x = [[1], 2]"), ("L4", "def f(*a):\n    return a"),
    ("L4", "def f(a):\n    def g():\n        return a\n    return g()"), ("L5", "class A:\n    x = 1"),
    ("L6", "def f(a):\n    with a:\n        pass"), ("L6", "def f(a):\n    assert a"), ("L6", "def f(a):\n    'told'"),
    ("L6", "def f(a):\n    for x in a:\n        pass\n    else:\n        pass"), ("L6", "def f(a):\n    x = y = a"),
    ("L7", "def f(a):\n    return a / 2"), ("L7", "def f(a):\n    return 1.5"), ("L7", "def f(a):\n    return {1}"),
    ("L7", "def f(a):\n    return sum(x for x in a)"), ("L7", "def f(a):\n    return (x := a)"),
    ("L7", "def f(a):\n    return f'{a + 1}'"), ("L7", "def f(a):\n    return f'{a:>3}'"),
    ("L8", "def f(a):\n    return pow(a, 2)"), ("L8", "def f(a):\n    return hash(a)"),
    ("L10", "x = 1  # " + "x" * 120), ("L10", "def f(a):\n" + "    a = 1\n" * 40), ("L10", "\n" * 401),
    ("L12", "def _f(a):\n    return a"), ("L12", "def f(_):\n    return 1"), ("L14", "x = '\t'"), ("L14", "# \u00e9"),
    ("L15", "x = 1\nx = 2"), ("L15", "def f(next):\n    return next"), ("L15", "X = {}\ndef f(a):\n    X[a] = 1"),
    ("L15", "X = []\ndef f(a):\n    X.append(a)"), ("L15", "X = []\ndef f(a):\n    return X"),
    ("L17", "# the type of it"), ("L17", "def f(a):\n    return open(a)"), ("L18", "class A(StopIteration):\n    pass"),
    ("L19", "def f(a):\n    raise a"), ("L20", "def f(a, b):\n    return a is b"),
    ("L21", "def f(a: int):\n    return a"),
    ("L22", "def f(a):\n    g = len\n    return g(a)"), ("L22", "def f(a):\n    return a.split(sep='x')"),
    ("L23", "def f(a):\n    x = range(a)\n    return x"), ("L23", "def f(a):\n    return list(reversed(range(a)))"),
    ("L25", "def f(a):\n    return a.title()"), ("L25", "def f(a):\n    return a.append"),
    ("L27", "def f(a):\n    return 2 ** a"), ("L27", "x = '10%'"), ("L27", "x = '\\x41'"), ("L27", "x = " + "9" * 901),
    ("L8", "def max(a):\n    return a"), ("L7", "def f(a):\n    return lambda: a"),
    ("L17", "def f(a):\n    return set(a)"),
    ("L18", "class One(ValueError):\n    pass\ndef f(a):\n    return One"),
    ("L18", "def f(a):\n    return [ValueError]"),
    ("L19", "def f(a):\n    raise ValueError(a)"), ("L19", "def f(a):\n    raise"),
    ("L22", "def f(a):\n    return sorted(a, key=len)"), ("L22", "def f(a):\n    return sorted(a, reverse=a)"),
    ("L23", "def f(a):\n    for x in a:\n        a.append(x)"), ("L23", "def f(a):\n    for x in a:\n        a[0] = x"),
    ("L23", "def f(a):\n    for k, x in enumerate(a):\n        a += [k]"), ("L26", "def f(a):\n    a.told = 1"),
    ("L28", "class A:\n    def __len__(self):\n        return 1"), ("L5", "class A:\n    'told'"),
    ("L6", "def f(a):\n    try:\n        f(a)\n    except KeyError:\n        pass"),
]


class TheHolding(unittest.TestCase):
    def test_what_breaks_a_rule_is_seen(self):
        modules = own_modules()
        for rule, text in BROKEN:
            with self.subTest(rule=rule, text=text):
                self.assertIn(rule, [found for found, line in language.faults(text, modules)])
