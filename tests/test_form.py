"""The form of the package's files: the rules of LANGUAGE.md that can be seen without running anything."""

import ast
import pathlib
import re
import unittest

FOLDER = pathlib.Path(__file__).resolve().parent.parent / "samebuilds"

STATEMENTS = (
    ast.FunctionDef, ast.Return, ast.Assign, ast.AugAssign, ast.For, ast.While, ast.If, ast.Raise, ast.Try, ast.Expr,
    ast.Pass, ast.Break, ast.Continue, ast.ImportFrom, ast.ClassDef, ast.Assert, ast.Delete,
)
BARRED = (
    ast.Set, ast.Lambda, ast.Yield, ast.YieldFrom, ast.Await, ast.NamedExpr, ast.JoinedStr, ast.Starred, ast.Div,
    ast.MatMult, ast.AnnAssign, ast.Global, ast.Nonlocal,
)
BUILTINS = {
    "len", "range", "enumerate", "zip", "min", "max", "sum", "abs", "sorted", "reversed", "int", "str", "bool", "list",
    "tuple", "dict", "set", "isinstance", "any", "all", "ValueError", "KeyError",
}
METHODS = {"append", "count", "find", "get", "index", "items", "join", "keys", "pop", "replace", "split", "values"}
WORDS = re.compile(r"\b(type|typing|enum|open|input|law|mro|register|elements|id|vars|eval|exec|chr)\b")
DEFINED = {
    "errors": ["BuildError"], "recipes": ["is_recipe", "worlds", "are_acts"], "making": ["texts_in", "outcome"],
}


def files():
    """Return (path, text, tree) of each file of the package."""
    found = []
    for path in sorted(FOLDER.rglob("*.py")):
        text = path.read_text(encoding="utf-8")
        found.append((path, text, ast.parse(text)))
    return found


class Form(unittest.TestCase):
    def test_the_folder_contains_only_its_files(self):
        found = [path for path in FOLDER.rglob("*") if "__pycache__" not in path.parts]
        self.assertTrue((FOLDER / "__init__.py").is_file())
        for path in found:
            self.assertRegex(path.name, r"^[a-z_]+\.py$")

    def test_characters_and_sizes(self):
        for path, text, _ in files():
            self.assertRegex(text, r"\A[ -~\n]*\n\Z", path)
            rows = text.split("\n")
            self.assertLessEqual(len(rows), 400, path)
            self.assertLessEqual(max(len(row) for row in rows), 120, path)

    def test_functions_have_at_most_forty_lines(self):
        for path, _, tree in files():
            for node in ast.walk(tree):
                if isinstance(node, ast.FunctionDef):
                    self.assertLessEqual(node.end_lineno - node.lineno + 1, 40, (path, node.name))
                    self.assertEqual(node.decorator_list, [], (path, node.name))

    def test_module_level(self):
        for path, _, tree in files():
            for node in tree.body[1:]:
                self.assertIsInstance(node, (ast.ImportFrom, ast.FunctionDef, ast.ClassDef, ast.Assign), path)
            self.assertTrue(ast.get_docstring(tree), path)

    def test_statements_and_expressions(self):
        for path, _, tree in files():
            for node in ast.walk(tree):
                if isinstance(node, ast.stmt):
                    self.assertIsInstance(node, STATEMENTS, (path, node.lineno))
                self.assertNotIsInstance(node, BARRED, path)
                if isinstance(node, ast.Constant):
                    self.assertNotIsInstance(node.value, (float, complex), path)
                if isinstance(node, ast.Compare) and any(isinstance(op, (ast.Is, ast.IsNot)) for op in node.ops):
                    self.assertIsInstance(node.comparators[0], ast.Constant, (path, node.lineno))

    def test_imports_name_the_file_that_defines_the_name(self):
        defined = {}
        for path, _, tree in files():
            names = [node.name for node in tree.body if isinstance(node, (ast.FunctionDef, ast.ClassDef))]
            names.extend(node.targets[0].id for node in tree.body if isinstance(node, ast.Assign))
            self.assertEqual(len(names), len(set(names)), path)
            defined["samebuilds." + path.stem] = names
        for path, _, tree in files():
            for node in ast.walk(tree):
                if isinstance(node, ast.ImportFrom):
                    self.assertEqual(node.level, 0, path)
                    for alias in node.names:
                        self.assertIn(alias.name, defined[node.module], path)

    def test_only_known_builtins_and_methods(self):
        for path, text, tree in files():
            known = set(BUILTINS)
            for node in ast.walk(tree):
                if isinstance(node, (ast.FunctionDef, ast.ClassDef)):
                    known.add(node.name)
                elif isinstance(node, ast.arg):
                    known.add(node.arg)
                elif isinstance(node, ast.alias):
                    known.add(node.asname or node.name)
                elif isinstance(node, ast.Name) and isinstance(node.ctx, ast.Store):
                    self.assertNotIn(node.id, BUILTINS, path)
                    known.add(node.id)
            for node in ast.walk(tree):
                if isinstance(node, ast.Name):
                    self.assertIn(node.id, known, path)
                elif isinstance(node, ast.Attribute):
                    self.assertIn(node.attr, METHODS, path)
                    self.assertIsNone(WORDS.search(node.attr), path)
                if isinstance(node, (ast.Name, ast.arg)):
                    self.assertIsNone(WORDS.search(getattr(node, "id", "") + getattr(node, "arg", "")), path)
            self.assertNotIn("\t", text)

    def test_the_interface_is_defined_where_it_is_listed(self):
        trees = {path.stem: tree for path, _, tree in files()}
        for stem, names in DEFINED.items():
            defined = [node.name for node in trees[stem].body if isinstance(node, (ast.FunctionDef, ast.ClassDef))]
            for name in names:
                self.assertIn(name, defined)

    def test_the_parameters_have_the_names_of_the_interface(self):
        expected = {
            "is_recipe": ["value"], "worlds": ["recipe"], "are_acts": ["recipe", "value"],
            "texts_in": ["recipe", "acts", "world"], "outcome": ["recipe", "acts", "world"],
        }
        for _, _, tree in files():
            for node in tree.body:
                if isinstance(node, ast.FunctionDef) and node.name in expected:
                    self.assertEqual([one.arg for one in node.args.args], expected[node.name], node.name)


if __name__ == "__main__":
    unittest.main()
