"""The form of the package's files, as far as it is easily seen: ../shared/LANGUAGE.md L1, L2, L10, L14, L15, L27."""

import ast
import pathlib
import unittest

PACKAGE = pathlib.Path(__file__).resolve().parent.parent / "yarnback"
LIBRARY = ("heapq", "math", "itertools", "collections", "__future__")
READING_CALLS = ("len", "list", "dict", "tuple", "sorted", "enumerate", "zip", "sum", "min", "max", "any", "all")
READING_METHODS = ("get", "items", "keys", "values", "index", "count")


def package_files():
    return [path for path in sorted(PACKAGE.rglob("*")) if "__pycache__" not in path.parts]


def strings_of(tree):
    return [node.value for node in ast.walk(tree) if isinstance(node, ast.Constant) and isinstance(node.value, str)]


def functions_of(tree):
    return [node for node in ast.walk(tree) if isinstance(node, ast.FunctionDef)]


def lists_and_dicts_of(tree):
    """The names of the lists and dicts that stand at a file's top."""
    rows = [row for row in tree.body if isinstance(row, ast.Assign) and isinstance(row.value, (ast.List, ast.Dict))]
    return {target.id for row in rows for target in row.targets}


def are_only_read(name, above):
    """Whether what stands above the name in the tree no more than reads what it names."""
    if isinstance(above, ast.Subscript):
        return above.value is name and isinstance(above.ctx, ast.Load)
    if isinstance(above, ast.Attribute):
        return above.attr in READING_METHODS
    if isinstance(above, ast.Call):
        return name in above.args and isinstance(above.func, ast.Name) and above.func.id in READING_CALLS
    if isinstance(above, (ast.For, ast.comprehension)):
        return above.iter is name
    return isinstance(above, ast.Compare)


def handed_on(tree, kept):
    """The rows of the file in which one of the kept names is more than read."""
    rows = []
    for above in ast.walk(tree):
        for name in ast.iter_child_nodes(above):
            if isinstance(name, ast.Name) and name.id in kept and isinstance(name.ctx, ast.Load):
                if not are_only_read(name, above):
                    rows.append(name.lineno)
    return rows


class FormTest(unittest.TestCase):
    def test_the_folder_holds_python_files_alone(self):
        self.assertIn("__init__.py", [path.name for path in package_files()])
        for path in package_files():
            self.assertEqual(path.suffix, ".py", path)

    def test_signs(self):
        for path in package_files():
            signs = set(path.read_text(encoding="utf-8")) - {"\n"}
            self.assertTrue(all(" " <= sign <= "~" for sign in signs), path)

    def test_sizes(self):
        for path in package_files():
            text = path.read_text(encoding="utf-8")
            rows = text.splitlines()
            self.assertLessEqual(len(rows), 399, path)
            self.assertLessEqual(max(map(len, rows), default=0), 120, path)
            for function in functions_of(ast.parse(text)):
                self.assertLessEqual(function.end_lineno - function.lineno + 1, 40, (path, function.name))

    def test_imports(self):
        for path in package_files():
            for node in ast.walk(ast.parse(path.read_text(encoding="utf-8"))):
                self.assertNotIsInstance(node, ast.Import, path)
                if isinstance(node, ast.ImportFrom):
                    self.assertEqual(node.level, 0, path)
                    self.assertIn(node.module.split(".")[0], ("yarnback", *LIBRARY), path)

    def test_strings(self):
        for path in package_files():
            for text in strings_of(ast.parse(path.read_text(encoding="utf-8"))):
                self.assertNotIn("%", text, path)

    def test_lists_and_dicts_at_a_files_top_are_only_read(self):
        trees = {path: ast.parse(path.read_text(encoding="utf-8")) for path in package_files()}
        kept = {path.stem: lists_and_dicts_of(tree) for path, tree in trees.items()}
        for path, tree in trees.items():
            imports = [row for row in tree.body if isinstance(row, ast.ImportFrom)]
            taken = {what.name for row in imports for what in row.names
                     if what.name in kept.get(row.module.split(".")[-1], ())}
            self.assertEqual(handed_on(tree, kept[path.stem] | taken), [], path)

    def test_what_is_told_of_lists_and_dicts_handed_on(self):
        top = "KEPT = {}\n"
        for row in ("f(KEPT)", "f(by=KEPT)", "f(*KEPT)", "a = KEPT", "KEPT[0] = 1", "del KEPT[0]", "KEPT.clear()",
                    "KEPT.pop(0)", "a = [KEPT]", "a, b = KEPT", "a.extend(KEPT)", "f(KEPT if a else b)"):
            tree = ast.parse(top + row)
            self.assertEqual(handed_on(tree, lists_and_dicts_of(tree)), [2], row)
        for row in ("f(dict(KEPT))", "a = KEPT[0]", "a in KEPT", "KEPT.get(0)", "len(KEPT)", "f(list(KEPT))",
                    "a = [b for b in KEPT]", "for a in KEPT: pass", "for a, b in KEPT.items(): pass"):
            tree = ast.parse(top + row)
            self.assertEqual(handed_on(tree, lists_and_dicts_of(tree)), [], row)


if __name__ == "__main__":
    unittest.main()
