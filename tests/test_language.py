"""The sizes, the characters and the imports that the package keeps to."""

import ast
import builtins
import pathlib
import re
import unittest

PACKAGE = pathlib.Path(__file__).parent.parent / "allgivenback"
FILES = sorted(PACKAGE.glob("**/*.py"))

READ = set("""len range enumerate zip min max sum abs sorted reversed int str bool list tuple dict set isinstance ord repr any
    all divmod iter ValueError NotImplemented property""".split())
METHODS = set("""append clear copy count endswith extend find get index insert items join keys pop remove replace reverse
    setdefault split startswith strip update values bit_length add discard""".split())
NO_NAMES = set("""register mro elements open input law attrgetter breakpoint compile delattr dir eval exec exit gc globals
    help id locals os quit type vars sys""".split())
NO_WORDS = re.compile(r"\b(type|typing|enum|Enum|Flag|Generic|Protocol|ABC|namedtuple|_wall\w*|_record|_outside|_cold)\b")

CHANGING = set("append clear extend insert pop remove reverse setdefault sort update add discard".split())
THROUGH = ("enumerate", "zip", "reversed")
VIEWS = ("items", "keys", "values")
COMPREHENSIONS = (ast.ListComp, ast.SetComp, ast.DictComp)


def told_by_value(value):
    """The names, attributes and items that a value may be, as texts; a copy such as `list(xs)` is none of them."""
    if isinstance(value, (ast.Name, ast.Attribute)):
        return {ast.unparse(value)}
    if isinstance(value, ast.Subscript):
        return set() if isinstance(value.slice, ast.Slice) else {ast.unparse(value)}
    if isinstance(value, ast.IfExp):
        return told_by_value(value.body) | told_by_value(value.orelse)
    if isinstance(value, ast.BoolOp):
        return set().union(*[told_by_value(each) for each in value.values])
    if isinstance(value, ast.Call) and isinstance(value.func, ast.Name) and value.func.id in THROUGH:
        return set().union(*[told_by_value(each) for each in value.args])
    if isinstance(value, ast.Call) and isinstance(value.func, ast.Attribute) and value.func.attr in VIEWS:
        return told_by_value(value.func.value)
    return set()


def same_values(function, names):
    """The names that come to mean one of these values anywhere in the function, whichever way they are assigned."""
    pairs = []
    for node in ast.walk(function):
        for target in node.targets if isinstance(node, ast.Assign) else []:
            both = isinstance(target, ast.Tuple) and isinstance(node.value, ast.Tuple)
            parts = zip(target.elts, node.value.elts) if both else [(target, node.value)]
            pairs += [{ast.unparse(left), name} for left, right in parts for name in told_by_value(right)]
    found, count = set(names), 0
    while len(found) > count:
        count = len(found)
        found = found.union(*[pair for pair in pairs if pair & found])
    return found


def changed_in(rows):
    """Tuples (text, line) of all that is changed in place in these rows."""
    for node in [each for row in rows for each in ast.walk(row)]:
        if isinstance(node, ast.Call) and isinstance(node.func, ast.Attribute) and node.func.attr in CHANGING:
            yield (ast.unparse(node.func.value), node.lineno)
        elif isinstance(node, ast.Subscript) and not isinstance(node.ctx, ast.Load):
            yield (ast.unparse(node.value), node.lineno)
        elif isinstance(node, ast.AugAssign):
            yield (ast.unparse(node.target), node.lineno)


def changed_while_walked(tree):
    """The lines of a file at which a loop or a comprehension changes what it walks, by this or by another name."""
    lines = set()
    for function in [node for node in ast.walk(tree) if isinstance(node, ast.FunctionDef)]:
        for node in ast.walk(function):
            walked = [node.iter] if isinstance(node, ast.For) else []
            walked += [each.iter for each in node.generators] if isinstance(node, COMPREHENSIONS) else []
            names = same_values(function, set().union(*[told_by_value(each) for each in walked]))
            rows = node.body if isinstance(node, ast.For) else [node]
            lines |= {line for name, line in changed_in(rows if walked else []) if name in names}
    return sorted(lines)


class LanguageTest(unittest.TestCase):
    def trees(self):
        """Each file with its tree."""
        return [(path, ast.parse(path.read_text())) for path in FILES]

    def test_only_python_files(self):
        others = [path for path in PACKAGE.glob("**/*") if path.is_file() and path.suffix not in (".py", ".pyc")]
        self.assertEqual(others, [])
        self.assertIn(PACKAGE / "__init__.py", FILES)

    def test_sizes_and_characters(self):
        for path in FILES:
            text = path.read_text()
            self.assertLessEqual(len(text.splitlines()), 399, path)
            for number, line in enumerate(text.split("\n"), start=1):
                self.assertLessEqual(len(line), 120, (path, number))
                self.assertTrue(all(" " <= sign <= "~" for sign in line), (path, number))

    def test_functions(self):
        for path, tree in self.trees():
            for node in ast.walk(tree):
                if isinstance(node, ast.FunctionDef):
                    self.assertLessEqual(node.end_lineno - node.lineno + 1, 40, (path, node.name))
                self.assertNotIsInstance(node, (ast.GeneratorExp, ast.Global, ast.With, ast.Import), path)

    def test_imports(self):
        for path, tree in self.trees():
            for node in ast.walk(tree):
                if isinstance(node, ast.ImportFrom):
                    self.assertEqual(node.level, 0, path)
                    folder, module = node.module.split(".")
                    self.assertEqual(folder, "allgivenback", path)
                    defined = self.names_of(PACKAGE / (module + ".py"))
                    self.assertEqual([name.name for name in node.names if name.name not in defined], [], path)

    def test_names(self):
        builtin = set(dir(builtins))
        for path, tree in self.trees():
            bound = {name.name for node in ast.walk(tree) if isinstance(node, ast.ImportFrom) for name in node.names}
            bound |= {node.name for node in tree.body if isinstance(node, ast.ClassDef)}
            for node in ast.walk(tree):
                if isinstance(node, ast.Name) and isinstance(node.ctx, ast.Load):
                    self.assertFalse(node.id in builtin - READ, (path, node.lineno, node.id))
                    continue
                name = node.id if isinstance(node, ast.Name) else node.arg if isinstance(node, ast.arg) else None
                self.assertFalse(name in builtin | bound | NO_NAMES, (path, name))

    def test_methods_and_attributes(self):
        classes = [node for _, tree in self.trees() for node in ast.walk(tree) if isinstance(node, ast.ClassDef)]
        own = {each.name for node in classes for each in node.body if isinstance(each, ast.FunctionDef)}
        for path, tree in self.trees():
            for node in ast.walk(tree):
                if isinstance(node, ast.Call) and isinstance(node.func, ast.Attribute):
                    self.assertIn(node.func.attr, own | METHODS, (path, node.lineno))
                    if node.func.attr in METHODS:
                        self.assertEqual(node.keywords, [], (path, node.lineno))
        for node in classes:
            methods = {
                each.name for each in node.body if isinstance(each, ast.FunctionDef) and not each.decorator_list}
            stored = {
                each.attr for each in ast.walk(node) if isinstance(each, ast.Attribute) and isinstance(each.ctx, ast.Store)}
            self.assertEqual(methods & stored, set(), node.name)

    def test_loops_do_not_change_what_they_walk(self):
        for path, tree in self.trees():
            self.assertEqual(changed_while_walked(tree), [], path)

    def test_loops_that_change_what_they_walk_are_found(self):
        wrong = (
            "for x in xs:|  xs.append(x)", "for x in xs:|  xs[0] = x", "for x in xs:|  del xs[0]",
            "for x in xs:|  xs += [x]", "for k, x in enumerate(xs):|  xs.pop()",
            "for x, y in zip(ys, xs):|  xs.clear()", "for x in reversed(xs):|  xs.sort()",
            "for k, x in xs.items():|  xs.update({})", "for x in self.xs:|  self.xs.insert(0, x)",
            "for x in xs or ys:|  ys.remove(x)", "for x in xs if ys else zs:|  zs.append(x)",
            "ys = xs|for x in xs:|  ys.append(x)", "ys = xs or zs|for x in ys:|  zs.pop()",
            "for x in self.xs[0]:|  self.xs[0].append(x)",
            "ys, zs = xs, 1|for x in xs:|  if x:|    ys.reverse()",
            "while xs:|  ys = []|  for x in xs:|    ys.extend(x)|  xs = ys", "ys = [xs.pop() for x in xs]")
        for text in wrong:
            self.assertEqual(len(self.lines_of(text)), 1, text)

    def test_loops_that_change_another_list_are_not_found(self):
        right = (
            "for x in list(xs):|  xs.append(x)", "for x in xs:|  ys.append(x)",
            "ys = list(xs)|for x in xs:|  ys.pop()", "ys = xs[:]|for x in xs:|  ys.clear()",
            "for x in xs:|  x = x + 1|xs.append(1)", "for x in xs[1:]:|  xs.append(x)",
            "while xs:|  ys = []|  for x in xs:|    ys.append(x)|  xs = [(y, 1) for y in ys]")
        for text in right:
            self.assertEqual(self.lines_of(text), [], text)

    def lines_of(self, text):
        """The lines found in a function with these rows, which are parted by strokes."""
        return changed_while_walked(ast.parse("def play(self, xs, ys, zs):\n  " + text.replace("|", "\n  ")))

    def test_small_things(self):
        for path, tree in self.trees():
            for number, line in enumerate(path.read_text().split("\n"), start=1):
                self.assertIsNone(NO_WORDS.search(line.split("#")[0]), (path, number))
                self.assertLess(line.count("lambda"), 2, (path, number))
            for node in ast.walk(tree):
                if isinstance(node, ast.Constant) and isinstance(node.value, str):
                    self.assertNotIn("%", node.value, (path, node.lineno))
                if isinstance(node, ast.Compare):
                    for sign, value in zip(node.ops, node.comparators):
                        if isinstance(sign, (ast.Is, ast.IsNot)):
                            self.assertIn(ast.unparse(value), ("None", "True", "False"), (path, node.lineno))

    def test_module_level(self):
        plain = (ast.Constant, ast.Tuple, ast.Dict, ast.Load)
        for path, tree in self.trees():
            for node in tree.body:
                is_text = isinstance(node, ast.Expr) and isinstance(node.value, ast.Constant)
                is_value = isinstance(node, ast.Assign) and all(isinstance(each, plain) for each in ast.walk(node.value))
                self.assertTrue(
                    is_text or is_value or isinstance(node, (ast.ImportFrom, ast.FunctionDef, ast.ClassDef)),
                    (path, node.lineno))

    def names_of(self, path):
        """The names that a file defines itself."""
        names = []
        for node in ast.parse(path.read_text()).body:
            if isinstance(node, (ast.FunctionDef, ast.ClassDef)):
                names.append(node.name)
            elif isinstance(node, ast.Assign):
                names.append(node.targets[0].id)
        return names


if __name__ == "__main__":
    unittest.main()
