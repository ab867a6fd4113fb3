"""The example in README.md."""

import pathlib
import unittest

README = pathlib.Path(__file__).resolve().parent.parent / "README.md"


class Readme(unittest.TestCase):
    def test_each_row_of_the_example_returns_what_is_told_behind_it(self):
        code = README.read_text(encoding="utf-8").split("```python\n")[1].split("```")[0]
        names = {}
        exec(code, names)
        tried = 0
        for row in code.split("\n"):
            call, sign, told = row.partition("  # ")
            if sign and not row.startswith(" "):
                self.assertEqual(repr(eval(call, names)), told.strip().split(": step")[0], row)
                tried += 1
        self.assertGreater(tried, 20)


if __name__ == "__main__":
    unittest.main()
