"""The sizes, the characters and the imports that the package keeps to."""

import ast
import builtins
import pathlib
import re
import unittest

PACKAGE = pathlib.Path(__file__).parent.parent / "allgivenback"
FILES = sorted(PACKAGE.glob("**/*.py"))

READ = set("""len range enumerate zip min max sum abs sorted reversed int str bool list tuple dict set isinstance ord repr any
    all divmod iter ValueError NotImplemented property""".split())
METHODS = set("""append clear copy count endswith extend find get index insert items join keys pop remove replace reverse
    setdefault split startswith strip update values bit_length add discard""".split())
NO_NAMES = set("""register mro elements open input law attrgetter breakpoint compile delattr dir eval exec exit gc globals
    help id locals os quit type vars sys""".split())
NO_WORDS = re.compile(r"\b(type|typing|enum|Enum|Flag|Generic|Protocol|ABC|namedtuple|_wall\w*|_record|_outside|_cold)\b")


class LanguageTest(unittest.TestCase):
    def trees(self):
        """Each file with its tree."""
        return [(path, ast.parse(path.read_text())) for path in FILES]

    def test_only_python_files(self):
        others = [path for path in PACKAGE.glob("**/*") if path.is_file() and path.suffix not in (".py", ".pyc")]
        self.assertEqual(others, [])
        self.assertIn(PACKAGE / "__init__.py", FILES)

    def test_sizes_and_characters(self):
        for path in FILES:
            text = path.read_text()
            self.assertLessEqual(len(text.splitlines()), 399, path)
            for number, line in enumerate(text.split("\n"), start=1):
                self.assertLessEqual(len(line), 120, (path, number))
                self.assertTrue(all(" " <= sign <= "~" for sign in line), (path, number))

    def test_functions(self):
        for path, tree in self.trees():
            for node in ast.walk(tree):
                if isinstance(node, ast.FunctionDef):
                    self.assertLessEqual(node.end_lineno - node.lineno + 1, 40, (path, node.name))
                self.assertNotIsInstance(node, (ast.GeneratorExp, ast.Global, ast.With, ast.Import), path)

    def test_imports(self):
        for path, tree in self.trees():
            for node in ast.walk(tree):
                if isinstance(node, ast.ImportFrom):
                    self.assertEqual(node.level, 0, path)
                    folder, module = node.module.split(".")
                    self.assertEqual(folder, "allgivenback", path)
                    defined = self.names_of(PACKAGE / (module + ".py"))
                    self.assertEqual([name.name for name in node.names if name.name not in defined], [], path)

    def test_names(self):
        builtin = set(dir(builtins))
        for path, tree in self.trees():
            bound = {name.name for node in ast.walk(tree) if isinstance(node, ast.ImportFrom) for name in node.names}
            bound |= {node.name for node in tree.body if isinstance(node, ast.ClassDef)}
            for node in ast.walk(tree):
                if isinstance(node, ast.Name) and isinstance(node.ctx, ast.Load):
                    self.assertFalse(node.id in builtin - READ, (path, node.lineno, node.id))
                    continue
                name = node.id if isinstance(node, ast.Name) else node.arg if isinstance(node, ast.arg) else None
                self.assertFalse(name in builtin | bound | NO_NAMES, (path, name))

    def test_methods_and_attributes(self):
        classes = [node for _, tree in self.trees() for node in ast.walk(tree) if isinstance(node, ast.ClassDef)]
        own = {each.name for node in classes for each in node.body if isinstance(each, ast.FunctionDef)}
        for path, tree in self.trees():
            for node in ast.walk(tree):
                if isinstance(node, ast.Call) and isinstance(node.func, ast.Attribute):
                    self.assertIn(node.func.attr, own | METHODS, (path, node.lineno))
                    if node.func.attr in METHODS:
                        self.assertEqual(node.keywords, [], (path, node.lineno))
        for node in classes:
            methods = {
                each.name for each in node.body if isinstance(each, ast.FunctionDef) and not each.decorator_list}
            stored = {
                each.attr for each in ast.walk(node) if isinstance(each, ast.Attribute) and isinstance(each.ctx, ast.Store)}
            self.assertEqual(methods & stored, set(), node.name)

    def test_small_things(self):
        for path, tree in self.trees():
            for number, line in enumerate(path.read_text().split("\n"), start=1):
                self.assertIsNone(NO_WORDS.search(line.split("#")[0]), (path, number))
                self.assertLess(line.count("lambda"), 2, (path, number))
            for node in ast.walk(tree):
                if isinstance(node, ast.Constant) and isinstance(node.value, str):
                    self.assertNotIn("%", node.value, (path, node.lineno))
                if isinstance(node, ast.Compare):
                    for sign, value in zip(node.ops, node.comparators):
                        if isinstance(sign, (ast.Is, ast.IsNot)):
                            self.assertIn(ast.unparse(value), ("None", "True", "False"), (path, node.lineno))

    def test_module_level(self):
        plain = (ast.Constant, ast.Tuple, ast.Dict, ast.Load)
        for path, tree in self.trees():
            for node in tree.body:
                is_text = isinstance(node, ast.Expr) and isinstance(node.value, ast.Constant)
                is_value = isinstance(node, ast.Assign) and all(isinstance(each, plain) for each in ast.walk(node.value))
                self.assertTrue(
                    is_text or is_value or isinstance(node, (ast.ImportFrom, ast.FunctionDef, ast.ClassDef)),
                    (path, node.lineno))

    def names_of(self, path):
        """The names that a file defines itself."""
        names = []
        for node in ast.parse(path.read_text()).body:
            if isinstance(node, (ast.FunctionDef, ast.ClassDef)):
                names.append(node.name)
            elif isinstance(node, ast.Assign):
                names.append(node.targets[0].id)
        return names


if __name__ == "__main__":
    unittest.main()
