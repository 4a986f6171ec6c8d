"""What README.md shows of the program does as it says."""

import contextlib
import io
import pathlib
import re
import unittest

README = pathlib.Path(__file__).resolve().parent.parent / "README.md"


class Readme(unittest.TestCase):
    def test_the_example(self):
        code = re.search("```python\n(.*?)```", README.read_text(), re.DOTALL).group(1)
        printed = io.StringIO()
        with contextlib.redirect_stdout(printed):
            exec(code, {})
        self.assertEqual(printed.getvalue(), "0 1\n")

    def test_each_module_is_named(self):
        text = README.read_text()
        for path in (README.parent / "forktales").glob("*.py"):
            if path.stem != "__init__":
                self.assertIn(f"`{path.stem}`", text)


if __name__ == "__main__":
    unittest.main()
