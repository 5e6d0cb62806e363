import pathlib
import re
import unittest

from tests.form import file_faults, import_faults, methods_and_values

ROOT = pathlib.Path(__file__).resolve().parent.parent
PACKAGE = ROOT / "leafhouse"


def package_paths():
    return sorted([path for path in PACKAGE.rglob("*") if "__pycache__" not in path.parts])


def package_files():
    files = {}
    for path in package_paths():
        module = ".".join(path.relative_to(ROOT).with_suffix("").parts)
        files[module.removesuffix(".__init__")] = path.read_bytes().decode("utf-8")
    return files


class TestForm(unittest.TestCase):
    def test_only_files_of_plain_names_lie_in_the_package(self):
        self.assertTrue((PACKAGE / "__init__.py").is_file())
        for path in package_paths():
            with self.subTest(path.name):
                self.assertTrue(path.is_file())
                self.assertRegex(path.name, re.compile(r"\A(__init__|[a-z][a-z0-9_]*)\.py\Z"))

    def test_each_file_keeps_to_the_language(self):
        for module, text in package_files().items():
            with self.subTest(module):
                self.assertEqual(file_faults(text), [])

    def test_imports(self):
        self.assertEqual(import_faults(package_files()), [])

    def test_no_name_is_a_method_and_a_value(self):
        self.assertEqual(methods_and_values(package_files()), [])


class TestTheLooking(unittest.TestCase):
    def test_what_is_outside_is_seen(self):
        told = {
            "x = 1 / 2": "L7",
            "x = 1.5": "L7",
            "import sys": "L7",
            "x = 1\nx = 2": "L15",
            "print(1)": "L3",
            "def f(*xs):\n    return 1": "L4",
            "def f(id):\n    return 1": "L15",
            "def f(x):\n    return getattr(x, 'a')": "L8",
            "def f(x):\n    _ = x\n    return x": "L12",
            "def f(x):\n    assert x": "L7",
            "def f(x):\n    return x is 3": "L20",
            "def f(x):\n    return 2 ** x": "L27",
            "def f(x):\n    return 'a%b'": "L27",
            "def f(x):\n    return (y for y in x)": "L7",
            "class A:\n    x = 1": "L5",
            "def f(x):\n" + "    x = x + 1\n" * 40: "L10",
            "# the ty" + "pe of it": "L17",
            "x = 1  #\ta tab": "L14",
            "x = '" + "a" * 120 + "'": "L10",
            "def f(x):\n    try:\n        x()\n    except Exception:\n        pass": "L19",
            "from a.b import y\ndef f(x):\n    y = x\n    return y": "L15",
            "class A:\n    pass\ndef f(A):\n    return 1": "L15",
            "class A:\n    def encode(self):\n        return 1": "L26",
            "class A:\n    def f(self):\n        self.values = 1": "L26",
            "def f(x):\n    return x.casefold()": "L25",
            "def f(x):\n    for y in x:\n        x.append(y)": "L23",
            "def f(x):\n    for y, z in enumerate(x.a):\n        x.a[y] = z": "L23",
            "def f(x):\n    for y, z in x.items():\n        x.pop(y)": "L23",
            "def f(x):\n    y = zip(x, x)\n    return list(y)": "L23",
            "def f(x):\n    return x.keys()": "L23",
            "def f(x):\n    return len(range(x))": "L23",
        }
        for text, rule in told.items():
            with self.subTest(text):
                self.assertIn(rule, [each for line, each in file_faults(text)])

    def test_imports_outside_are_seen(self):
        good = {"p": "", "p.a": "X = 1", "p.b": "from p.a import X"}
        self.assertEqual(import_faults(good), [])
        bad = [
            {"p": "", "p.a": "from p.b import Y\nX = 1", "p.b": "from p.a import X\nY = 1"},
            {"p": "from p.b import X", "p.a": "X = 1", "p.b": "from p.a import X"},
            {"p": "", "p.a": "from re import escape"},
            {"p": "", "p.a": "from .b import X", "p.b": "X = 1"},
        ]
        for files in bad:
            with self.subTest(files):
                self.assertNotEqual(import_faults(files), [])

    def test_a_method_that_is_a_value_elsewhere_is_seen(self):
        text = "class A:\n    def f(self):\n        return 1\nclass B:\n    def g(self):\n        self.f = 1"
        self.assertEqual(methods_and_values({"p": text}), ["f"])


if __name__ == "__main__":
    unittest.main()
