"""The sizes, the characters and the imports that the package keeps to."""

import ast
import pathlib
import unittest

PACKAGE = pathlib.Path(__file__).parent.parent / "allgivenback"
FILES = sorted(PACKAGE.glob("**/*.py"))


class LanguageTest(unittest.TestCase):
    def trees(self):
        """Each file with its tree."""
        return [(path, ast.parse(path.read_text())) for path in FILES]

    def test_only_python_files(self):
        others = [path for path in PACKAGE.glob("**/*") if path.is_file() and path.suffix not in (".py", ".pyc")]
        self.assertEqual(others, [])
        self.assertIn(PACKAGE / "__init__.py", FILES)

    def test_sizes_and_characters(self):
        for path in FILES:
            text = path.read_text()
            self.assertLessEqual(len(text.splitlines()), 399, path)
            for number, line in enumerate(text.split("\n"), start=1):
                self.assertLessEqual(len(line), 120, (path, number))
                self.assertTrue(all(" " <= sign <= "~" for sign in line), (path, number))

    def test_functions(self):
        for path, tree in self.trees():
            for node in ast.walk(tree):
                if isinstance(node, ast.FunctionDef):
                    self.assertLessEqual(node.end_lineno - node.lineno + 1, 40, (path, node.name))
                self.assertNotIsInstance(node, (ast.GeneratorExp, ast.Global, ast.With, ast.Import), path)

    def test_imports(self):
        for path, tree in self.trees():
            for node in ast.walk(tree):
                if isinstance(node, ast.ImportFrom):
                    self.assertEqual(node.level, 0, path)
                    folder, module = node.module.split(".")
                    self.assertEqual(folder, "allgivenback", path)
                    defined = self.names_of(PACKAGE / (module + ".py"))
                    self.assertEqual([name.name for name in node.names if name.name not in defined], [], path)

    def names_of(self, path):
        """The names that a file defines itself."""
        names = []
        for node in ast.parse(path.read_text()).body:
            if isinstance(node, (ast.FunctionDef, ast.ClassDef)):
                names.append(node.name)
            elif isinstance(node, ast.Assign):
                names.append(node.targets[0].id)
        return names


if __name__ == "__main__":
    unittest.main()
