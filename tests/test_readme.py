import pathlib
import re
import unittest

README = pathlib.Path(__file__).resolve().parent.parent / "README.md"


class TestReadme(unittest.TestCase):
    def test_its_example_runs(self):
        code = re.search(r"```python\n(.*?)```", README.read_text(encoding="utf-8"), re.DOTALL).group(1)
        names = {}
        exec(code, names)
        self.assertEqual(names["table"].all_keys(), ["a key", "b"])
        self.assertEqual(names["played"](names["small"], ["many", "get b"]), [["2"], ["its value"]])


if __name__ == "__main__":
    unittest.main()
