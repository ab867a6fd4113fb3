"""The form of the package's files: the rules of LANGUAGE.md that can be seen without running anything."""

import ast
import pathlib
import re
import unittest

FOLDER = pathlib.Path(__file__).resolve().parent.parent / "samebuilds"

STATEMENTS = (
    ast.FunctionDef, ast.Return, ast.Assign, ast.AugAssign, ast.For, ast.While, ast.If, ast.Raise, ast.Try, ast.Expr,
    ast.Pass, ast.Break, ast.Continue, ast.ImportFrom, ast.ClassDef, ast.Assert, ast.Delete,
)
BARRED = (
    ast.Set, ast.Lambda, ast.Yield, ast.YieldFrom, ast.Await, ast.NamedExpr, ast.JoinedStr, ast.Starred, ast.Div,
    ast.MatMult, ast.AnnAssign, ast.Global, ast.Nonlocal, ast.GeneratorExp,
)
BUILTINS = {
    "len", "range", "enumerate", "zip", "min", "max", "sum", "abs", "sorted", "reversed", "int", "str", "bool", "list",
    "tuple", "dict", "set", "isinstance", "any", "all", "ValueError", "KeyError",
}
METHODS = {
    "append", "count", "extend", "find", "get", "index", "items", "join", "keys", "pop", "replace", "setdefault", "split",
    "values",
}
WORDS = re.compile(r"\b(type|typing|enum|open|input|law|mro|register|elements|id|vars|eval|exec|chr)\b")
# The functions of the interface that are there, with their parameters, by the file under which it lists them.
DEFINED = {
    "recipes": {"is_recipe": ["value"], "worlds": ["recipe"], "are_acts": ["recipe", "value"]},
    "making": {"texts_in": ["recipe", "acts", "world"], "outcome": ["recipe", "acts", "world"]},
    "sameness": {
        "worlds_left": ["recipe", "acts"], "is_same": ["recipe", "acts"], "first_parting": ["recipe", "acts"],
        "classes": ["recipe", "acts"],
    },
    "offers": {
        "are_offers": ["recipe", "value"], "price_of": ["recipe", "offers", "acts"],
        "is_cure": ["recipe", "offers", "wish", "acts"], "touches": ["recipe", "act", "world"],
    },
    "cheapest": {
        "least_price": ["recipe", "offers", "wish"], "all_cheapest": ["recipe", "offers", "wish"],
        "sure_acts": ["recipe", "offers", "wish"],
    },
    "papers": {
        "paper": ["recipe", "offers", "wish", "price"], "is_paper": ["recipe", "offers", "wish", "price", "value"],
    },
    "budgets": {"fewest_classes": ["recipe", "offers", "budget"], "trades": ["recipe", "offers"]},
    "hanging": {
        "hangs_on": ["recipe", "acts"], "step_hangs_on": ["recipe", "acts", "step"],
        "hanging_pair": ["recipe", "acts", "thing"],
    },
    "blame": {
        "changing_sets": ["recipe", "world", "other"], "restoring_sets": ["recipe", "world", "other"],
    },
    "again": {
        "made_again": ["recipe", "world", "other"], "count_runs": ["recipe", "some"], "least_runs": ["recipe", "some"],
    },
    "alike": {"are_alike": ["one", "other"], "parting_world": ["one", "other"]},
    "trimming": {
        "constant_steps": ["recipe"], "unused_steps": ["recipe"], "models": ["recipe"], "trimmed": ["recipe"],
    },
    "orders": {"is_order": ["recipe", "value"], "count_orders": ["recipe"], "least_rounds": ["recipe", "hands"]},
    "texts": {"format_recipe": ["recipe"], "parse_recipe": ["text"]},
    "desk": {},
    "naive": {
        "naive_is_same": ["recipe", "acts"], "naive_least_price": ["recipe", "offers", "wish"],
        "naive_count_orders": ["recipe"],
    },
}
# The methods of the one class of the interface beside the errors, with their parameters.
DESK = {
    "__init__": ["self", "recipe", "offers"], "__len__": ["self"], "__str__": ["self"], "__eq__": ["self", "other"],
    "buy": ["self", "act"], "give_back": ["self", "act"], "acts": ["self"], "price": ["self"], "undo": ["self"],
    "duplicate": ["self"],
}


def files():
    """Return (path, text, tree) of each file of the package."""
    found = []
    for path in sorted(FOLDER.rglob("*.py")):
        text = path.read_text(encoding="utf-8")
        found.append((path, text, ast.parse(text)))
    return found


def own_methods():
    """Return the set of the names of the methods that classes of the package have."""
    found = set()
    for _, _, tree in files():
        for node in ast.walk(tree):
            if isinstance(node, ast.ClassDef):
                found.update(row.name for row in node.body if isinstance(row, ast.FunctionDef))
    return found


def own_attributes():
    """Return the set of the names of the attributes that are assigned somewhere in the package."""
    return {node.attr for _, _, tree in files() for node in ast.walk(tree)
            if isinstance(node, ast.Attribute) and isinstance(node.ctx, ast.Store)}


class Form(unittest.TestCase):
    def test_the_folder_contains_only_its_files(self):
        found = [path for path in FOLDER.rglob("*") if "__pycache__" not in path.parts]
        self.assertTrue((FOLDER / "__init__.py").is_file())
        for path in found:
            self.assertRegex(path.name, r"^[a-z_]+\.py$")

    def test_characters_and_sizes(self):
        for path, text, _ in files():
            self.assertRegex(text, r"\A[ -~\n]*\n\Z", path)
            rows = text.split("\n")
            self.assertLessEqual(len(rows), 400, path)
            self.assertLessEqual(max(len(row) for row in rows), 120, path)

    def test_functions_have_at_most_forty_lines(self):
        for path, _, tree in files():
            for node in ast.walk(tree):
                if isinstance(node, ast.FunctionDef):
                    self.assertLessEqual(node.end_lineno - node.lineno + 1, 40, (path, node.name))
                    self.assertEqual(node.decorator_list, [], (path, node.name))

    def test_module_level(self):
        for path, _, tree in files():
            for node in tree.body[1:]:
                self.assertIsInstance(node, (ast.ImportFrom, ast.FunctionDef, ast.ClassDef, ast.Assign), path)
            self.assertTrue(ast.get_docstring(tree), path)

    def test_statements_and_expressions(self):
        for path, _, tree in files():
            for node in ast.walk(tree):
                if isinstance(node, ast.stmt):
                    self.assertIsInstance(node, STATEMENTS, (path, node.lineno))
                self.assertNotIsInstance(node, BARRED, path)
                if isinstance(node, ast.Constant):
                    self.assertNotIsInstance(node.value, (float, complex), path)
                if isinstance(node, ast.Compare) and any(isinstance(op, (ast.Is, ast.IsNot)) for op in node.ops):
                    self.assertIsInstance(node.comparators[0], ast.Constant, (path, node.lineno))

    def test_imports_name_the_file_that_defines_the_name(self):
        defined = {}
        for path, _, tree in files():
            names = [node.name for node in tree.body if isinstance(node, (ast.FunctionDef, ast.ClassDef))]
            names.extend(node.targets[0].id for node in tree.body if isinstance(node, ast.Assign))
            self.assertEqual(len(names), len(set(names)), path)
            defined["samebuilds." + path.stem] = names
        for path, _, tree in files():
            for node in ast.walk(tree):
                if isinstance(node, ast.ImportFrom):
                    self.assertEqual(node.level, 0, path)
                    for alias in node.names:
                        self.assertIn(alias.name, defined[node.module], path)

    def test_only_known_builtins_and_methods(self):
        own = own_methods() | own_attributes()
        for path, text, tree in files():
            known = set(BUILTINS)
            for node in ast.walk(tree):
                if isinstance(node, (ast.FunctionDef, ast.ClassDef)):
                    known.add(node.name)
                elif isinstance(node, ast.arg):
                    known.add(node.arg)
                elif isinstance(node, ast.alias):
                    known.add(node.asname or node.name)
                elif isinstance(node, ast.Name) and isinstance(node.ctx, ast.Store):
                    self.assertNotIn(node.id, BUILTINS, path)
                    known.add(node.id)
            for node in ast.walk(tree):
                if isinstance(node, ast.Name):
                    self.assertIn(node.id, known, path)
                elif isinstance(node, ast.Attribute):
                    self.assertIn(node.attr, METHODS | own, path)
                    self.assertIsNone(WORDS.search(node.attr), path)
                if isinstance(node, (ast.Name, ast.arg)):
                    self.assertIsNone(WORDS.search(getattr(node, "id", "") + getattr(node, "arg", "")), path)
            self.assertNotIn("\t", text)

    def test_no_variable_has_the_name_of_a_function_a_class_or_an_import_of_its_file(self):
        for path, _, tree in files():
            barred = {node.name for node in tree.body if isinstance(node, (ast.FunctionDef, ast.ClassDef))}
            for node in tree.body:
                if isinstance(node, ast.ImportFrom):
                    barred.update(alias.name for alias in node.names)
            for node in ast.walk(tree):
                if isinstance(node, ast.Name) and isinstance(node.ctx, ast.Store):
                    self.assertNotIn(node.id, barred, (path, node.lineno))
                elif isinstance(node, ast.arg):
                    self.assertNotIn(node.arg, barred, (path, node.lineno))

    def test_each_import_is_used(self):
        for path, _, tree in files():
            used = {node.id for node in ast.walk(tree) if isinstance(node, ast.Name)}
            for node in tree.body:
                if isinstance(node, ast.ImportFrom):
                    for alias in node.names:
                        self.assertIn(alias.name, used, path)

    def test_no_two_files_import_from_each_other(self):
        behind = {}
        for path, _, tree in files():
            names = [node.module for node in tree.body if isinstance(node, ast.ImportFrom)]
            behind[path.stem] = {name.rsplit(".", 1)[1] for name in names}
        while behind:
            free = [stem for stem, needed in behind.items() if not needed & set(behind)]
            self.assertTrue(free, behind)
            for stem in free:
                del behind[stem]

    def test_the_interface_is_defined_where_it_is_listed_with_its_parameters(self):
        trees = {path.stem: tree for path, _, tree in files()}
        for stem, expected in DEFINED.items():
            found = {node.name: node.args for node in trees[stem].body if isinstance(node, ast.FunctionDef)}
            for name, parameters in expected.items():
                self.assertEqual([one.arg for one in found[name].args], parameters, name)
                self.assertEqual(found[name].defaults, [], name)

    def test_the_desk_has_its_methods_in_the_class_itself(self):
        trees = {path.stem: tree for path, _, tree in files()}
        desk, = [node for node in trees["desk"].body if isinstance(node, ast.ClassDef) and node.name == "Desk"]
        self.assertEqual(desk.bases + desk.decorator_list + desk.keywords, [])
        found = {row.name: row.args for row in desk.body if isinstance(row, ast.FunctionDef)}
        for name, parameters in DESK.items():
            self.assertEqual([one.arg for one in found[name].args], parameters, name)
            self.assertEqual(found[name].defaults, [], name)

    def test_methods_and_attributes(self):
        self.assertEqual(own_methods() & own_attributes(), set())
        self.assertEqual((own_methods() | own_attributes()) & METHODS, set())
        for name in own_methods() | own_attributes():
            self.assertRegex(name, r"^(_?[a-z][a-z_]*|__init__|__eq__|__len__|__str__)$")
            self.assertNotIn(name, dir(str) + dir(list) + dir(dict) + dir(int) if name[:2] != "__" else [])

    def test_methods_that_show_or_compare_objects_only_return(self):
        for path, _, tree in files():
            for node in ast.walk(tree):
                if isinstance(node, ast.FunctionDef) and node.name in ("__eq__", "__len__", "__str__"):
                    self.assertIsInstance(node.body[0], ast.Return, path)
                    self.assertEqual(len(node.body), 1, path)


if __name__ == "__main__":
    unittest.main()
