"""The files of the package against the rules of the language and the interface of the document."""

import ast
import unittest
from pathlib import Path

from tests import rules

PACKAGE = "hungfacts"
FOLDER = Path(__file__).resolve().parent.parent / PACKAGE
INTERFACE = {
    "units.py": {"is_words": ("value",), "Unit": ("words", "text")},
    "programs.py": {"Program": ("units", "roots")},
    "runs.py": {name: ("program", "root", "values", "most") for name in ("run", "steps", "met")},
    "clauses.py": {"unit_clauses": ("unit",), "clauses": ("program",)},
    "solving.py": {"facts": ("program",), "way": ("program", "fact"), "closed": ("program", "fact"),
                   "shows_way": ("program", "fact", "value"), "shows_closed": ("program", "fact", "value")},
    "stages.py": {"staged": ("program", "order"), "ring": ("program", "order"), "shows_ring": ("program", "value")},
    "summaries.py": {"inputs": ("unit",), "outputs": ("unit",), "follows": ("unit", "some"), "summary": ("unit",),
                     "joined": ("units", "roots")},
    "parting.py": {"alike": ("one", "other"), "parting": ("one", "other"), "shows_parting": ("one", "other", "value")},
    "questions.py": {"answer": ("program", "question", "*", "budget")},
    "making.py": {"made": ("program", "name", "*", "budget")},
    "maderuns.py": {"run_made": ("program", "root", "values", "most", "*", "budget")},
    "stepping.py": {"Stepper": ("program", "root", "values", "*", "budget")},
    "changes.py": {"Change": ("elder", "newer", "*", "budget")},
    "house.py": {"House": ("program", "*", "budget")},
    "whys.py": {"why": ("change", "name"), "shows_why": ("change", "name", "value")},
    "facttexts.py": {"show_fact": ("fact",), "read_fact": ("text",), "show_summary": ("unit",), "read_summary": ("text",)},
    "stored.py": {"stored": ("house",), "read_house": ("text",)},
    "desk.py": {"Desk": ("text",)},
}
METHODS = {
    "programs.py": {"Program": {"unit": ("self", "name")}},
    "stepping.py": {"Stepper": {"step": ("self",), "back": ("self",), "until": ("self", "unit", "line"), "told": ("self", "name"),
                                "state": ("self",), "against": ("self", "program"), "move": ("self", "program")}},
    "house.py": {"House": {"made": ("self", "name"), "facts": ("self",), "run": ("self", "root", "values", "most"),
                           "times": ("self", "name"), "edit": ("self", "texts", "*", "drops", "roots"), "undo": ("self",),
                           "redo": ("self",), "trial": ("self",), "tried": ("self", "look", "*", "keep"),
                           "start": ("self", "root", "values"), "stepper": ("self", "number"), "behind": ("self",), "copy": ("self",)}},
    "desk.py": {"Desk": {"say": ("self", "line")}},
}

HEAD = '"""Some file."""\n'
WRONG = [
    ("L10", "def f(a):\n" + "    a = 1\n" * 40 + "    return a\n"),
    ("L10", "# " + "x" * 120 + "\n"), ("L14", "# \u00e4\n"), ("L14", "def f(a):\n\treturn a\n"),
    ("L2", "import os\n"), ("L2", "from os import path\n"), ("L2", "from .other import thing\n"),
    ("L2", "from pack.other import *\n"), ("L16", "from pack.other import nothing\n"), ("L16", "from pack.other import back\n"),
    ("L2", "X = 1\nfrom pack.other import thing\nY = thing\n"), ("L3", "print(1)\n"), ("L3", "X = len('a')\n"),
    ("L3", "X, Y = 1, 2\n"), ("L3", "X = 1\nY = (X, 2)\n"), ("L3", "X = {1: f}\n\n\ndef f(a):\n    return a\n"), ("L15", "X = 1\nX = 2\n"), ("L15", "def f(hash):\n    return hash\n"),
    ("L15", "from pack.other import thing\n\n\ndef f(thing):\n    return thing\n"), ("L15", "def f(a):\n    id = a\n    return id\n"),
    ("L17", "def f(law):\n    return law\n"), ("L17", "def f(a):\n    return a.f_code\n"),
    ("L17", "def f(a):\n    return a == 'typing'\n"), ("L17", "def f(a):\n    return g(register=a)\n\n\ndef g(b):\n    return b\n"),
    ("L27", "X = 'a%'\n"), ("L27", "X = 'a._'\n"), ("L27", "X = '\\x41'\n"), ("L27", "X = '__a b__'\n"),
    ("L7", "X = 1.5\n"), ("L6", "def f(a):\n    return a / 2\n"), ("L6", "def f(a):\n    global X\n    return a\n"),
    ("L19", "def f(a):\n    try:\n        return a\n    except Exception:\n        return 1\n"),
    ("L19", "def f(a):\n    try:\n        return a\n    except TypeError:\n        return 1\n"),
    ("L19", "def f(a):\n    raise a\n"), ("L20", "def f(a, b):\n    return a is b\n"),
    ("L4", "def g(a):\n    return a\n\n\n@g\ndef f(a):\n    return a\n"),
    ("L28", "class A:\n    def __init__(self):\n        return None\n"),
    ("L8", "def f(a):\n    return round(a)\n"), ("L8", "def f(a):\n    return chr(a)\n"),
    ("L8", "class A:\n    def __hash__(self):\n        return 1\n"), ("L12", "def f(_):\n    return _\n"),
    ("L12", "def f(a\u00e4):\n    return 1\n"), ("L25", "def f(a):\n    return a.encode()\n"),
    ("L25", "def f(a):\n    return a.split(sep=',')\n"), ("L18", "def f(a):\n    return a.nothing\n"),
    ("L22", "def f(a):\n    return int(x=a)\n"), ("L26", "class A:\n    def __init__(self):\n        self.items = 1\n"),
    ("L23", "def f(a):\n    b = zip(a, a)\n    return b\n"), ("L23", "def f(a):\n    return a.items()\n"),
    ("L23", "def f(a):\n    with a:\n        yield 1\n"), ("L23", "def f(a):\n    yield a\n\n\ndef g(a):\n    return f(a)\n"),
    ("L23", "def f(a):\n    b = yield a\n    return b\n"), ("L23", "def thing(a):\n    yield a\n"),
    ("L24", "def f(a):\n    return set(a)\n"), ("L24", "def f(a):\n    return list({x for x in a})\n"),
    ("L7", "def f(a):\n    return any(x for x in a)\n"), ("unused", "from pack.other import thing\n"),
    ("L25", "class A:\n    def one(self):\n        return self.two(self.one)\n\n    def two(self, a):\n        return a\n"),
    ("L7", "def f(*a):\n    return f(1, *a, len(a))\n"),
    ("L3", "def f(a):\n    return T[a](1)\n\n\nT = {1: f}\n"),
    ("L15", "T = {1: 2}\n\n\ndef f(a):\n    return f(T)\n"), ("L15", "T = [1]\n\n\ndef f(a):\n    return T\n"),
    ("L15", "T = [1]\n\n\ndef f(a):\n    a = T\n    return a\n"), ("L15", "T = [1]\n\n\ndef f(a):\n    T.append(a)\n"),
    ("L15", "T = {1: 2}\n\n\ndef f(a):\n    T[a] = 1\n"),
    ("L18", "class A:\n    def __init__(self):\n        self.one = 1\n\n    def one(self):\n        return 1\n"),
    ("L18", "class A:\n    def one(self):\n        return 1\n\n    def one(self):\n        return 2\n"),
    ("L4", "def f(a=[]):\n    return a\n"), ("L4", "def f(*, a=len):\n    return a\n"),
    ("L28", "class A:\n    def __eq__(self, other):\n        self.one = 1\n        return True\n"),
    *[("L6", f"class A:\n    def __exit__(self, kind, value, trace):\n        {row}\n")
      for row in ("self.one()", "return True", "self.one = value", "self.one = len(self.two)", "one = self.two", "if kind:\n            pass",
                  "if self.one > self.two:\n            pass", "for one in self.two:\n            pass", "raise kind")],
    ("L6", "def f(a):\n    with a[0]:\n        return 1\n"),
]


def files_of(folder):
    return {str(path.relative_to(folder)): path.read_text(encoding="utf-8") for path in sorted(folder.rglob("*.py"))}


def parameters(node):
    """The names of parameters; those that are taken by name alone stand behind a *."""
    behind = ["*"] + [each.arg for each in node.args.kwonlyargs] if node.args.kwonlyargs else []
    return tuple([each.arg for each in node.args.args] + behind)


class TestPackage(unittest.TestCase):
    def setUp(self):
        self.files = files_of(FOLDER)

    def test_rules(self):
        self.assertEqual(rules.faults_of(self.files, PACKAGE), [])

    def test_nothing_else_in_the_folder(self):
        others = [str(path) for path in FOLDER.rglob("*") if path.suffix != ".py" and "__pycache__" not in str(path)]
        self.assertEqual([path for path in others if not Path(path).is_dir()], [])
        self.assertIn("__init__.py", self.files)

    def test_no_warnings(self):
        self.assertEqual(rules.version_warnings(self.files), [])

    def test_name_of_the_package(self):
        self.assertFalse(rules.is_library_name(PACKAGE))

    def test_interface(self):
        for name, wanted in INTERFACE.items():
            own = {node.name: node for node in ast.parse(self.files[name]).body
                   if isinstance(node, (ast.FunctionDef, ast.ClassDef))}
            for each, arguments in wanted.items():
                with self.subTest(file=name, name=each):
                    node = own[each]
                    if isinstance(node, ast.ClassDef):
                        methods = {part.name: parameters(part) for part in node.body if isinstance(part, ast.FunctionDef)}
                        self.assertEqual(methods["__init__"], ("self",) + arguments)
                        for method, taken in METHODS.get(name, {}).get(each, {}).items():
                            self.assertEqual(methods[method], taken)
                    else:
                        self.assertEqual(parameters(node), arguments)


class TestRules(unittest.TestCase):
    """The rules themselves are looked at: each finds what it is for."""

    def files(self, text):
        other = HEAD + "from pack.third import back\n\n\ndef thing(a):\n    return back(a)\n"
        third = HEAD + "\n\ndef back(a):\n    return a\n"
        return {"__init__.py": HEAD, "some.py": HEAD + text, "other.py": other, "third.py": third}

    def test_right_file(self):
        text = "from pack.other import thing\n\nX = (1, 2)\n\n\ndef f(a):\n    return thing([x for x in a if x in X])\n"
        self.assertEqual(rules.faults_of(self.files(text), "pack"), [])

    def test_wrong_files(self):
        for rule, text in WRONG:
            with self.subTest(rule, text=text):
                found = rules.faults_of(self.files(text), "pack")
                self.assertIn((rule, "some.py"), [fault[:2] for fault in found])

    def test_what_exit_asks(self):
        right = ("kind is None", "kind is not None", "self.one is None", "self.one.two is None", "kind is not None or self.one is None",
                 "not self.one is None and not kind is None")
        alone = ("self.one", "not self.one", "self.one.two", "kind is not None or not self.one", "self.one is None and self.two")
        wrong = ("kind", "not kind", "kind is True", "kind == None", "value is None", "trace is None", "self.one is True",
                 "self.one is not None", "self.one()", "self.one == self.two", "kind is self.one is None")
        for method in ("", "__eq__(self, other)", "__len__(self)"):
            head = f"class B:\n    def {method}:\n        return 1\n\n\n" if method else ""
            for test in right + alone + wrong:
                text = f"{head}class A:\n    def __exit__(self, kind, value, trace):\n        if {test}:\n            return False\n"
                found = [fault[:2] for fault in rules.faults_of(self.files(text), "pack")]
                with self.subTest(method=method, test=test):
                    self.assertEqual(("L6", "some.py") not in found, test in right or test in alone and not method)

    def test_long_file(self):
        found = rules.faults_of(self.files("# x\n" * 400), "pack")
        self.assertEqual([fault[:2] for fault in found], [("L10", "some.py")])
        self.assertEqual(rules.faults_of(self.files("# x\n" * 398), "pack"), [])

    def test_ring_of_imports(self):
        files = self.files("from pack.ring import one\n\n\ndef two(a):\n    return one(a)\n")
        files["ring.py"] = HEAD + "from pack.some import two\n\n\ndef one(a):\n    return two(a)\n"
        found = rules.faults_of(files, "pack")
        self.assertIn(("L16", "pack.some", 0), found)
        self.assertIn(("L16", "pack.ring", 0), found)

    def test_file_names(self):
        for name in ("Some.py", "len.py", "test_x.py", "law_x.py", "a/b.py", "__main__x.py", "typing.py"):
            files = self.files("X = 1\n")
            files[name] = HEAD
            with self.subTest(name):
                self.assertIn(name, [fault[1] for fault in rules.faults_of(files, "pack")])


if __name__ == "__main__":
    unittest.main()
