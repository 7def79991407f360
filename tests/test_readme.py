"""The README: its code runs, and prints what the comments behind the prints tell."""

import contextlib
import io
import pathlib
import re
import unittest

README = pathlib.Path(__file__).resolve().parent.parent / "README.md"


class ReadmeTest(unittest.TestCase):
    def test_the_code(self):
        code = "".join(re.findall(r"```python\n(.*?)```", README.read_text(), re.S))
        told = re.findall(r"^print\(.*?\) +# (.*)$", code, re.M)
        self.assertGreater(len(told), 8)
        self.assertEqual(len(told), code.count("print("))
        out = io.StringIO()
        with contextlib.redirect_stdout(out):
            exec(code, {})
        self.assertEqual(out.getvalue().splitlines(), told)

    def test_each_module_is_told(self):
        for path in (README.parent / "wholemoment").rglob("*.py"):
            if path.stem != "__init__":
                name = ".".join(path.relative_to(README.parent).with_suffix("").parts)
                self.assertIn(f"`{name}`", README.read_text())


if __name__ == "__main__":
    unittest.main()
