"""The example in README.md."""

import ast
import pathlib
import unittest

README = pathlib.Path(__file__).resolve().parent.parent / "README.md"


class Readme(unittest.TestCase):
    def test_each_row_of_the_example_returns_what_is_told_behind_it(self):
        code = README.read_text(encoding="utf-8").split("```python\n")[1].split("```")[0]
        rows = code.split("\n")
        names = {}
        tried = 0
        # One statement after the other: at a desk, each of them depends on those ahead of it.
        for node in ast.parse(code).body:
            if isinstance(node, ast.Expr):
                found = eval(compile(ast.Expression(node.value), "README.md", "eval"), names)
                row = rows[node.end_lineno - 1]
                self.assertEqual(repr(found), row.partition("  # ")[2].strip().split(": ")[0], row)
                tried += 1
            else:
                exec(compile(ast.Module([node], []), "README.md", "exec"), names)
        self.assertGreater(tried, 50)


if __name__ == "__main__":
    unittest.main()
