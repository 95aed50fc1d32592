import unittest
from pathlib import Path

from language import PACKAGE, faults_of

FOLDER = Path(__file__).resolve().parent.parent / PACKAGE

ERRORS = "class WebError(ValueError):\n    pass\n"

GOOD = '''"""A file that keeps to the rules."""

from dyeweb.errors import WebError

MOST = 7
FEW = (1, -2, "three", None)


def told(points, ties, many=3):
    found = {}
    total = 0
    for place, tie in enumerate(ties):
        if tie not in found and tie[0] is not None:
            found[tie] = place
        total += place * 2 ** 3 // MOST
    for name, number in zip(reversed(ties), list(range(3)), strict=False):
        total += 1 if isinstance(name, tuple) else number
    while total > many:
        total = total - 1
    if points < 0 or not ties:
        raise WebError("no such points\\n")
    names = [str(key) for key, value in found.items() if value > 0]
    names.append("a" if total == 0 else "b")
    return sorted(set(names))[:-1] + list(range(points)) + [max(1, 2)]
'''


# Each row: the rule that is told, and what stands within a function.
BAD_BODIES = [
    ("L2", "from dyeweb.errors import WebError"),
    ("L4", "def inner():\n        return 1"),
    ("L6", "with xs:\n        pass"),
    ("L6", "assert xs"),
    ("L6", "del xs[0]"),
    ("L6", "global other"),
    ("L6", "a = b = 1"),
    ("L6", "a, b = xs"),
    ("L6", "for x in xs:\n        pass\n    else:\n        pass"),
    ("L6", "try:\n        pass\n    except KeyError:\n        pass"),
    ("L6", "for xs[0] in (1, 2):\n        pass"),
    ("L6", "xs == 1"),
    ("L6", '"a text by itself"'),
    ("L7", "a = 1.5"),
    ("L7", "a = 3 / 2"),
    ("L7", "a = b'x'"),
    ("L7", "a = f'{xs}'"),
    ("L7", "a = {1, 2, 3}"),
    ("L7", "a = {x for x in xs}"),
    ("L7", "a = {x: x for x in xs}"),
    ("L7", "a = sum(x for x in xs)"),
    ("L7", "a = [x + y for x in xs for y in xs]"),
    ("L7", "a = [x for x in xs if x if x > 1]"),
    ("L7", "if (a := len(xs)):\n        pass"),
    ("L7", "a = [*xs]"),
    ("L7", "a = {**xs}"),
    ("L7", "a = tell(**xs)"),
    ("L7", "a = lambda x: x"),
    ("L7", "yield xs"),
    ("L8", "print(xs)"),
    ("L8", "a = hash(xs)"),
    ("L8", "a = chr(xs)"),
    ("L8", "a = unknown"),
    ("L10", "a = 1\n" + "    a = 2\n" * 40),
    ("L10", "a = " + "1" * 120),
    ("L10", "a =\t1"),
    ("L12", "_a = 1"),
    ("L12", "_ = 1"),
    ("L14", "a = 1  # \u00e9"),
    ("L15", "min = 1"),
    ("L15", "hash = 1"),
    ("L15", "WebError = 1"),
    ("L15", "class Inner(ValueError):\n        pass"),
    ("L17", "open(xs)"),
    ("L17", "a = 1  # the type of it"),
    ("L17", "a = 1  # mydataclasses"),
    ("L18", "a = WebError"),
    ("L18", "a = [ValueError]"),
    ("L19", "raise ValueError('no')"),
    ("L19", "raise WebError"),
    ("L19", "raise"),
    ("L19", "raise WebError('no') from None"),
    ("L20", "a = xs is 3"),
    ("L21", "a: int = 1"),
    ("L22", "a = len"),
    ("L22", "a = sorted(xs, cmp=1)"),
    ("L22", "a = xs.split(sep=1)"),
    ("L22", "a = sorted(xs, reverse=xs)"),
    ("L22", "a = isinstance(xs, set)"),
    ("L22", "a = isinstance(int, xs)"),
    ("L23", "a = range(3)"),
    ("L23", "a = zip(xs, xs)"),
    ("L23", "a = xs.items()"),
    ("L23", "for x, y in zip(xs, range(3)):\n        pass"),
    ("L23", "a = len(range(3))"),
    ("L23", "for x in xs:\n        xs.append(x)"),
    ("L23", "for k, x in enumerate(xs):\n        xs[k] = 1"),
    ("L23", "for x in xs:\n        xs += [1]"),
    ("L24", "a = set(xs)"),
    ("L24", "for x in set(xs):\n        pass"),
    ("L24", "a = list(set(xs))"),
    ("L25", "xs.sort()"),
    ("L25", "a = xs.append"),
    ("L25", "a = xs.format(1)"),
    ("L25", "xs.value = 1"),
    ("L27", "a = 2 ** xs"),
    ("L27", "a = 2 ** 65"),
    ("L27", "xs **= xs"),
    ("L27", 'a = "50%"'),
    ("L27", 'a = "\\x41"'),
    ("L27", 'a = "\\\\\\x41"'),
]

# Each row: the rule that is told, and what stands at a file's top.
BAD_TOPS = [
    ("L2", "from os import path"),
    ("L2", "from .errors import NoWeb"),
    ("L2", "from dyeweb.errors import *"),
    ("L2", "from dyeweb.errors import WebError as Other"),
    ("L3", "A = [1]"),
    ("L3", "A = len('x')"),
    ("L3", "if True:\n    pass"),
    ("L4", "def f(*xs):\n    return 1"),
    ("L4", "def f(**xs):\n    return 1"),
    ("L4", "def f(a, *, b):\n    return 1"),
    ("L4", "def f(a=[]):\n    return 1"),
    ("L4", "@tell\ndef f(a):\n    return 1"),
    ("L5", "class A(ValueError):\n    a = 1"),
    ("L5", "class A(ValueError):\n    def show(self):\n        return 1"),
    ("L5", "class A(ValueError, WebError):\n    pass"),
    ("L8", "def len(a):\n    return 1"),
    ("L10", "# more\n" * 401),
    ("L12", "def _f(a):\n    return 1"),
    ("L15", "A = 1\nA = 2"),
    ("L15", "A = 1\n\n\ndef A(x):\n    return 1"),
    ("L15", "def f(WebError):\n    return 1"),
    ("L15", "def f(next):\n    return 1"),
    ("L16", "import dyeweb.errors"),
    ("L16", "from dyeweb.errors import NotThere"),
    ("L17", '"""A protocol of the word Protocol."""'),
    ("L17", "def register(a):\n    return 1"),
    ("L18", "class A(StopIteration):\n    pass"),
    ("L18", "class A(list):\n    pass"),
    ("L21", "def f(a: int):\n    return 1"),
    ("L21", "def f(a) -> int:\n    return 1"),
]


def rules_told(files):
    return sorted({fault[0] for fault in faults_of(files)})


def with_file(text):
    return {"__init__.py": "", "errors.py": ERRORS, "some.py": text}


class TestThePackage(unittest.TestCase):
    def test_it_keeps_to_the_rules(self):
        files = {}
        for path in FOLDER.rglob("*"):
            name = str(path.relative_to(FOLDER))
            # Python leaves this folder behind where it runs; it is not among the project's files.
            if "__pycache__" not in name:
                files[name] = path.read_bytes().decode("utf-8") if path.is_file() else ""
        self.assertIn("webs.py", files)
        self.assertEqual(faults_of(files), [])


class TestTheCheck(unittest.TestCase):
    def test_a_good_file(self):
        self.assertEqual(faults_of(with_file(GOOD)), [])

    def test_bad_bodies(self):
        for rule, body in BAD_BODIES:
            text = "from dyeweb.errors import WebError\n\n\ndef tell(xs):\n    " + body + "\n"
            self.assertIn(rule, rules_told(with_file(text)), body)

    def test_bad_tops(self):
        for rule, top in BAD_TOPS:
            if "WebError" in top and "import" not in top:
                top = "from dyeweb.errors import WebError\n\n\n" + top
            self.assertIn(rule, rules_told(with_file(top + "\n")), top)

    def test_bad_files(self):
        for rule, name in [
            ("L1", "notes.txt"),
            ("L1", "inner/some.py"),
            ("L1", "so-me.py"),
            ("L14", "Some.py"),
            ("L14", "test_some.py"),
            ("L14", "tests.py"),
            ("L14", "range.py"),
            ("L14", "enum.py"),
        ]:
            self.assertIn(rule, rules_told({"__init__.py": "", name: ""}), name)
        self.assertIn("L14", rules_told({"some.py": ""}))

    def test_files_that_draw_from_one_another(self):
        one = "from dyeweb.two import f\n\n\ndef g(a):\n    return f(a)\n"
        two = "from dyeweb.one import g\n\n\ndef f(a):\n    return g(a)\n"
        self.assertIn("L16", rules_told({"__init__.py": "", "one.py": one, "two.py": two}))
        drawn = "from dyeweb.errors import WebError\n"
        self.assertIn("L16", rules_told({"__init__.py": drawn, "errors.py": drawn.replace("errors", "some"),
                                         "some.py": ERRORS}))
        self.assertIn("L16", rules_told({"__init__.py": "some = 1\n", "some.py": ""}))


if __name__ == "__main__":
    unittest.main()
