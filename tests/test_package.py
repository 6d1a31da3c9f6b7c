"""The form of the package's files: their names, sizes, characters and imports."""

import ast
import pathlib
import re
import unittest
import warnings

FOLDER = pathlib.Path(__file__).resolve().parent.parent / "anyfactors"
OUTSIDE = {"heapq", "math", "itertools", "collections"}


def sources():
    for path in sorted(FOLDER.rglob("*.py")):
        yield path, path.read_bytes().decode("ascii")


def trees():
    for path, text in sources():
        with warnings.catch_warnings():
            warnings.simplefilter("error")
            yield path, ast.parse(text)


class Files(unittest.TestCase):
    def test_names(self):
        paths = [path for path in FOLDER.rglob("*") if "__pycache__" not in path.parts]
        self.assertIn(FOLDER / "__init__.py", paths)
        for path in paths:
            if path.is_dir():
                self.assertTrue((path / "__init__.py").is_file(), path)
            else:
                self.assertRegex(path.name, "^(__init__|[a-z][a-z0-9_]*)[.]py$")

    def test_characters_and_sizes(self):
        for path, text in sources():
            self.assertIsNone(re.search("[^ -~\n]", text), path)
            lines = text.split("\n")
            self.assertLessEqual(len(lines), 400, path)
            for line in lines:
                self.assertLessEqual(len(line), 120, path)

    def test_functions_are_short(self):
        for path, tree in trees():
            for node in ast.walk(tree):
                if isinstance(node, ast.FunctionDef):
                    self.assertLessEqual(node.end_lineno - node.lineno + 1, 40, (path, node.name))

    def test_strings_have_no_percent_sign(self):
        for path, tree in trees():
            for node in ast.walk(tree):
                if isinstance(node, ast.Constant) and isinstance(node.value, str):
                    self.assertNotIn("%", node.value, path)

    def test_imports(self):
        for path, tree in trees():
            for node in ast.walk(tree):
                self.assertNotIsInstance(node, ast.Import, path)
                if isinstance(node, ast.ImportFrom):
                    self.assertEqual(node.level, 0, path)
                    self.assertTrue(node.module.startswith("anyfactors.") or node.module in OUTSIDE, node.module)


if __name__ == "__main__":
    unittest.main()
