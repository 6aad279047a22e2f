"""The package's form: what its files are, what they draw from, and how large they are."""

import ast
import pathlib
import unittest

PACKAGE = pathlib.Path(__file__).resolve().parent.parent / "ferry"

STAGES = {
    "errors": 1, "marks": 1, "pieces": 1,
    "spans": 2, "slates": 2,
    "givers": 3, "takers": 3,
    "meetings": 4,
    "hosts": 5, "turns": 5,
    "roads": 6, "logs": 6,
    "deeds": 7, "worlds": 7, "settling": 7,
    "rows": 8, "plays": 8,
}


def files():
    return sorted(path for path in PACKAGE.iterdir() if path.name != "__pycache__")


def drawn_from(path):
    """The package's files that one imports from; what isn't such an import stands as it is."""
    names = []
    for node in ast.walk(ast.parse(path.read_text())):
        if isinstance(node, ast.Import):
            names.extend([alias.name for alias in node.names])
        elif isinstance(node, ast.ImportFrom):
            module = "." * node.level + (node.module or "")
            names.append(module.removeprefix("ferry."))
    return names


def methods_and_values():
    """The names of all methods of all classes, and of all values that objects are given."""
    methods = set()
    values = set()
    for path in files():
        for node in ast.walk(ast.parse(path.read_text())):
            if isinstance(node, ast.ClassDef):
                methods |= {part.name for part in node.body if isinstance(part, ast.FunctionDef)}
            elif isinstance(node, ast.Attribute) and isinstance(node.ctx, ast.Store):
                values.add(node.attr)
    return methods, values


class Layout(unittest.TestCase):
    def test_init_binds_nothing(self):
        self.assertEqual(ast.parse((PACKAGE / "__init__.py").read_text()).body, [])

    def test_only_source_files_lie_in_it(self):
        for path in files():
            self.assertTrue(path.is_file() and path.suffix == ".py", path.name)

    def test_files_use_their_own_stage_and_those_ahead_alone(self):
        for path in files():
            for name in drawn_from(path):
                with self.subTest(path.name, name=name):
                    self.assertIn(name, STAGES)
                    self.assertLessEqual(STAGES[name], STAGES[path.stem])

    def test_no_name_is_a_method_here_and_a_value_there(self):
        methods, values = methods_and_values()
        self.assertEqual(methods & values, set())

    def test_sizes(self):
        for path in files():
            rows = path.read_text().split("\n")
            self.assertLessEqual(len(rows), 400, path.name)
            self.assertLessEqual(max([len(row) for row in rows]), 120, path.name)
            for node in ast.walk(ast.parse(path.read_text())):
                if isinstance(node, ast.FunctionDef):
                    self.assertLessEqual(node.end_lineno - node.lineno + 1, 40, node.name)

    def test_signs(self):
        for path in files():
            for sign in path.read_bytes():
                self.assertTrue(sign == 10 or 32 <= sign <= 126, path.name)


if __name__ == "__main__":
    unittest.main()
