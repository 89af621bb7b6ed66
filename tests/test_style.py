"""The rules about files that a program can check: sizes, characters, imports."""

import ast
import unittest
from pathlib import Path

PACKAGE = Path(__file__).resolve().parent.parent / "openlane"


class TestStyle(unittest.TestCase):

    def files(self):
        return sorted(path for path in PACKAGE.rglob("*") if "__pycache__" not in path.parts)

    def test_only_python_files(self):
        self.assertTrue(self.files())
        for path in self.files():
            self.assertEqual(path.suffix, ".py", path)

    def test_characters_and_lengths(self):
        for path in self.files():
            lines = path.read_bytes().decode("ascii").split("\n")
            self.assertLessEqual(len(lines), 399, path)
            for line in lines:
                self.assertLessEqual(len(line), 120, path)
                self.assertTrue(all(" " <= sign <= "~" for sign in line), path)
                self.assertEqual(line, line.rstrip(), path)

    def test_short_functions(self):
        for path in self.files():
            for node in ast.walk(ast.parse(path.read_text())):
                if isinstance(node, ast.FunctionDef):
                    self.assertLessEqual(node.end_lineno - node.lineno + 1, 40, (path, node.name))

    def test_imports_by_full_names(self):
        for path in self.files():
            for node in ast.walk(ast.parse(path.read_text())):
                self.assertNotIsInstance(node, (ast.Import, ast.Global), path)
                if isinstance(node, ast.ImportFrom):
                    self.assertEqual(node.level, 0, path)
                    self.assertTrue(node.module.startswith("openlane."), path)


if __name__ == "__main__":
    unittest.main()
