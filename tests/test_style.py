"""The rules of the language subset that a program can check."""

import ast
import builtins
import io
import tokenize
import unittest
from pathlib import Path

PACKAGE = Path(__file__).resolve().parent.parent / "openlane"

BUILTINS = set(
    "len range enumerate zip min max sum abs sorted reversed int str bool list tuple dict set isinstance ord repr"
    " any all divmod ValueError".split())
METHODS = set(
    "append clear copy count endswith extend find get index insert isalnum isalpha isdigit islower isspace isupper"
    " items join keys ljust lower lstrip partition pop remove replace reverse rfind rjust rpartition rsplit rstrip"
    " setdefault split splitlines startswith strip update upper values zfill bit_length".split())
BARRED = set(
    "register mro elements open input law version_info with_traceback add_note type typing typing_extensions enum"
    " Enum Flag Generic Protocol ABC namedtuple NamedTuple TypedDict dataclass overload contextmanager eval exec"
    " compile globals locals vars dir id os sys help exit quit license copyright super chr map iter next".split())
NODES = (
    ast.Import, ast.Global, ast.AsyncFunctionDef, ast.AsyncFor, ast.AsyncWith, ast.Await, ast.Div, ast.MatMult,
    ast.Try, ast.With, ast.Yield, ast.YieldFrom, ast.NamedExpr, ast.Starred, ast.Match, ast.Lambda, ast.AnnAssign,
)


class TestStyle(unittest.TestCase):

    def files(self):
        return sorted(path for path in PACKAGE.rglob("*") if "__pycache__" not in path.parts)

    def trees(self):
        for path in self.files():
            yield path, ast.parse(path.read_text())

    def nodes(self, *kinds):
        for path, tree in self.trees():
            for node in ast.walk(tree):
                if isinstance(node, kinds):
                    yield path, node

    def test_only_python_files(self):
        self.assertTrue(self.files())
        for path in self.files():
            self.assertEqual(path.suffix, ".py", path)

    def test_the_files_of_the_interface(self):
        names = {path.stem for path in self.files()}
        self.assertLessEqual({
            "__init__", "errors", "logs", "stayers", "lanes", "histories", "counting", "positions", "patterns",
            "sightings", "yard", "texts",
        }, names)

    def test_characters_and_lengths(self):
        for path in self.files():
            lines = path.read_bytes().decode("ascii").split("\n")
            self.assertLessEqual(len(lines), 399, path)
            for line in lines:
                self.assertLessEqual(len(line), 120, path)
                self.assertTrue(all(" " <= sign <= "~" for sign in line), path)
                self.assertEqual(line, line.rstrip(), path)

    def test_short_functions(self):
        for path, node in self.nodes(ast.FunctionDef):
            self.assertLessEqual(node.end_lineno - node.lineno + 1, 40, (path, node.name))

    def test_imports_by_full_names(self):
        for path, node in self.nodes(ast.ImportFrom):
            self.assertEqual(node.level, 0, path)
            self.assertTrue(node.module.startswith("openlane."), path)
            target = ast.parse((PACKAGE / (node.module.split(".")[1] + ".py")).read_text())
            defined = {each.name for each in target.body if isinstance(each, (ast.FunctionDef, ast.ClassDef))}
            for alias in node.names:
                self.assertIn(alias.name, defined, path)
                self.assertIsNone(alias.asname, path)

    def test_no_circle_of_imports(self):
        needed = {path.stem: {node.module.split(".")[1] for node in tree.body if isinstance(node, ast.ImportFrom)}
                  for path, tree in self.trees()}
        while needed:
            free = [name for name, others in needed.items() if not others & set(needed)]
            self.assertTrue(free, needed)
            for name in free:
                del needed[name]

    def test_no_statements_outside_the_subset(self):
        for path, node in self.nodes(*NODES):
            self.fail((path, node.lineno, type(node).__name__))

    def test_functions_and_classes_are_plain(self):
        for path, node in self.nodes(ast.FunctionDef, ast.ClassDef):
            self.assertEqual(node.decorator_list, [], path)
            self.assertIsNotNone(ast.get_docstring(node) or node.name.startswith("__"), path)

    def test_module_level(self):
        for path, tree in self.trees():
            bound = []
            for node in tree.body:
                if isinstance(node, ast.ImportFrom):
                    bound += [alias.name for alias in node.names]
                elif isinstance(node, (ast.FunctionDef, ast.ClassDef)):
                    bound.append(node.name)
                elif isinstance(node, ast.Assign):
                    self.assertIsInstance(node.value, ast.Constant, path)
                    bound.append(node.targets[0].id)
                else:
                    self.assertIsInstance(node.value, ast.Constant, path)
            self.assertEqual(len(set(bound)), len(bound), path)
            self.check_locals(path, tree, set(bound))

    def check_locals(self, path, tree, bound):
        """No parameter and no local variable has a name of its file."""
        for node in ast.walk(tree):
            if isinstance(node, ast.arg):
                self.assertNotIn(node.arg, bound, path)
                self.assertNotIn(node.arg, dir(builtins), path)
            if isinstance(node, ast.Name) and isinstance(node.ctx, ast.Store) and node not in self.tops(tree):
                self.assertNotIn(node.id, bound, path)
                self.assertNotIn(node.id, dir(builtins), path)

    def tops(self, tree):
        return [target for node in tree.body if isinstance(node, ast.Assign) for target in node.targets]

    def test_builtins_and_methods(self):
        own = {node.name for _, node in self.nodes(ast.FunctionDef)}
        for path, node in self.nodes(ast.Name):
            if node.id in dir(builtins):
                self.assertIn(node.id, BUILTINS, (path, node.lineno))
        for path, node in self.nodes(ast.Call):
            if isinstance(node.func, ast.Attribute):
                self.assertIn(node.func.attr, METHODS | own | {"add"}, (path, node.lineno))
            self.assertFalse(any(keyword.arg is None for keyword in node.keywords), path)

    def test_constants(self):
        for path, node in self.nodes(ast.Constant):
            self.assertNotIsInstance(node.value, (float, complex, bytes), path)
            if isinstance(node.value, str):
                self.assertNotIn("%", node.value, path)

    def test_identity_only_with_none(self):
        for path, node in self.nodes(ast.Compare):
            for sign, right in zip(node.ops, node.comparators):
                if isinstance(sign, (ast.Is, ast.IsNot)):
                    self.assertIsInstance(right, ast.Constant, path)
                    self.assertIn(right.value, (None, True, False), path)

    def test_barred_names(self):
        for path in self.files():
            for token in tokenize.generate_tokens(io.StringIO(path.read_text()).readline):
                if token.type == tokenize.NAME:
                    self.assertNotIn(token.string, BARRED, (path, token.start))

    def test_own_errors_only(self):
        for path, node in self.nodes(ast.Raise):
            self.assertIsInstance(node.exc, ast.Call, path)
            self.assertIsInstance(node.exc.func, ast.Name, path)
            self.assertIsNone(node.cause, path)


if __name__ == "__main__":
    unittest.main()
