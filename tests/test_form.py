"""The form of the package's files, as far as it is easily seen: ../shared/LANGUAGE.md L1, L2, L10, L14, L27."""

import ast
import pathlib
import unittest

PACKAGE = pathlib.Path(__file__).resolve().parent.parent / "yarnback"
LIBRARY = ("heapq", "math", "itertools", "collections", "__future__")


def package_files():
    return [path for path in sorted(PACKAGE.rglob("*")) if "__pycache__" not in path.parts]


def strings_of(tree):
    return [node.value for node in ast.walk(tree) if isinstance(node, ast.Constant) and isinstance(node.value, str)]


def functions_of(tree):
    return [node for node in ast.walk(tree) if isinstance(node, ast.FunctionDef)]


class FormTest(unittest.TestCase):
    def test_the_folder_holds_python_files_alone(self):
        self.assertIn("__init__.py", [path.name for path in package_files()])
        for path in package_files():
            self.assertEqual(path.suffix, ".py", path)

    def test_signs(self):
        for path in package_files():
            signs = set(path.read_text(encoding="utf-8")) - {"\n"}
            self.assertTrue(all(" " <= sign <= "~" for sign in signs), path)

    def test_sizes(self):
        for path in package_files():
            text = path.read_text(encoding="utf-8")
            rows = text.splitlines()
            self.assertLessEqual(len(rows), 399, path)
            self.assertLessEqual(max(map(len, rows), default=0), 120, path)
            for function in functions_of(ast.parse(text)):
                self.assertLessEqual(function.end_lineno - function.lineno + 1, 40, (path, function.name))

    def test_imports(self):
        for path in package_files():
            for node in ast.walk(ast.parse(path.read_text(encoding="utf-8"))):
                self.assertNotIsInstance(node, ast.Import, path)
                if isinstance(node, ast.ImportFrom):
                    self.assertEqual(node.level, 0, path)
                    self.assertIn(node.module.split(".")[0], ("yarnback", *LIBRARY), path)

    def test_strings(self):
        for path in package_files():
            for text in strings_of(ast.parse(path.read_text(encoding="utf-8"))):
                self.assertNotIn("%", text, path)


if __name__ == "__main__":
    unittest.main()
