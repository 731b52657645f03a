"""The rules of LANGUAGE.md that can be read off the package's files."""

import ast
import builtins
import pathlib
import re
import unittest
import warnings

PACKAGE = pathlib.Path(__file__).resolve().parent.parent / "lendback"
FILES = sorted(path for path in PACKAGE.rglob("*") if path.is_file() and "__pycache__" not in path.parts)
ALLOWED_BUILTINS = (
    "len range enumerate zip min max sum abs sorted reversed int str bool list tuple dict set isinstance ord repr "
    "any all divmod super Exception ValueError TypeError KeyError IndexError LookupError"
).split()
BARRED_WORDS = (
    "type typing enum Enum namedtuple Protocol Generic ABC register mro elements open input law version_info "
    "with_traceback add_note eval exec globals locals vars dir id hash async await global"
).split()
BARRED_NODES = (ast.Div, ast.Global, ast.AsyncFunctionDef, ast.Await, ast.MatMult, ast.Import)
MODULE_LEVEL = (ast.Expr, ast.ImportFrom, ast.FunctionDef, ast.ClassDef, ast.Assign)
BUILTIN_METHODS = {name for kind in (str, int, list, dict, set, bytes, tuple) for name in dir(kind)}
CHANGES = "append extend insert pop remove clear update setdefault sort reverse add discard".split()


def read_tree(path):
    with warnings.catch_warnings():
        warnings.simplefilter("error")
        text = path.read_text(encoding="ascii")
        compile(text, str(path), "exec")
        return ast.parse(text)


TREES = {path: read_tree(path) for path in FILES}


def nodes(kinds):
    return [(path, node) for path, tree in TREES.items() for node in ast.walk(tree) if isinstance(node, kinds)]


def own_names(tree):
    """The names that a file itself defines at module level."""
    found = []
    for node in tree.body:
        if isinstance(node, (ast.FunctionDef, ast.ClassDef)):
            found.append(node.name)
        elif isinstance(node, ast.Assign):
            found += [target.id for target in node.targets]
    return found


def imported_names(tree):
    return [part.asname or part.name for node in tree.body if isinstance(node, ast.ImportFrom) for part in node.names]


def code_of(path):
    """The code of a file without comments and docstrings, in which any words may stand."""
    tree = ast.parse(path.read_text())
    for node in ast.walk(tree):
        if isinstance(node, (ast.Module, ast.FunctionDef, ast.ClassDef)) and ast.get_docstring(node) is not None:
            node.body[0] = ast.Pass()
    return ast.unparse(tree)


def is_builtin(name):
    return hasattr(builtins, name) and not name.startswith("__")


class Files(unittest.TestCase):
    def test_names_of_files(self):
        self.assertIn("__init__.py", [path.name for path in FILES])
        for path in FILES:
            self.assertRegex(path.name, r"\A([a-z][a-z0-9_]*|__init__|__main__)\.py\Z")
            self.assertNotRegex(path.name, r"\A(test|law_|site|conftest)")
            self.assertFalse(is_builtin(path.stem), path)

    def test_characters_and_lines(self):
        for path in FILES:
            text = path.read_bytes().decode("ascii")
            self.assertRegex(text, r"\A[ -~\n]*\Z")
            rows = text.split("\n")
            self.assertLessEqual(len(rows), 400, path)
            self.assertLessEqual(max(len(row) for row in rows), 120, path)

    def test_words(self):
        for path in FILES:
            words = re.findall(r"\w+", code_of(path))
            self.assertEqual([word for word in BARRED_WORDS if word in words], [], path)
            self.assertNotRegex(path.read_text(), "dataclass|overload|contextmanager|_wall")


class Syntax(unittest.TestCase):
    def test_module_level(self):
        for path, tree in TREES.items():
            for node in tree.body:
                self.assertIsInstance(node, MODULE_LEVEL, path)
                if isinstance(node, ast.Expr):
                    self.assertIs(node, tree.body[0], path)
                if isinstance(node, ast.Assign):
                    self.assertEqual(len(node.targets), 1, path)
            found = own_names(tree) + imported_names(tree)
            self.assertEqual(len(found), len(set(found)), path)
            self.assertEqual([name for name in found if is_builtin(name)], [], path)

    def test_imports(self):
        imports = {path.stem: [] for path in FILES}
        for path, node in nodes(ast.ImportFrom):
            self.assertIn(node, TREES[path].body)
            package, file = node.module.split(".")
            self.assertEqual((package, node.level), ("lendback", 0), path)
            names = [part.name for part in node.names]
            self.assertLessEqual(set(names), set(own_names(TREES[PACKAGE / (file + ".py")])), path)
            imports[path.stem].append(file)
        while imports:
            free = [file for file in imports if not set(imports[file]) & set(imports)]
            self.assertTrue(free, "files import from each other")
            for file in free:
                del imports[file]

    def test_functions(self):
        for path, node in nodes(ast.FunctionDef):
            self.assertLessEqual(node.end_lineno - node.lineno + 1, 40, (path, node.name))
            self.assertEqual(node.decorator_list, [], (path, node.name))

    def test_names(self):
        for path, node in nodes((ast.FunctionDef, ast.Lambda)):
            bound = [part.arg for part in ast.walk(node.args) if isinstance(part, ast.arg)]
            bound += [part.id for part in ast.walk(node) if isinstance(part, ast.Name) and isinstance(part.ctx, ast.Store)]
            for name in bound:
                self.assertFalse(is_builtin(name), (path, name))
                self.assertRegex(name, r"\A[a-z_][a-z0-9_]*\Z")
                self.assertNotIn(name, imported_names(TREES[path]), path)
        for path, node in nodes(ast.Name):
            self.assertTrue(not is_builtin(node.id) or node.id in ALLOWED_BUILTINS, (path, node.id))

    def test_barred_parts(self):
        for path, node in nodes(BARRED_NODES):
            self.fail((path, node))
        for path, node in nodes(ast.Constant):
            self.assertNotIsInstance(node.value, (float, complex), path)
            if isinstance(node.value, str):
                self.assertNotIn("%", node.value, path)

    def test_attributes_are_no_methods_of_builtin_values(self):
        for path, node in nodes(ast.Attribute):
            if isinstance(node.ctx, ast.Store):
                self.assertNotIn(node.attr, BUILTIN_METHODS, path)

    def test_arguments_are_not_modified(self):
        # Point 2. A method may change its own object.
        for path, node in nodes(ast.FunctionDef):
            arguments = {part.arg for part in node.args.args + node.args.kwonlyargs} - {"self"}
            for part in ast.walk(node):
                changed = isinstance(part, (ast.Subscript, ast.Attribute)) and isinstance(part.ctx, (ast.Store, ast.Del))
                if changed or isinstance(part, ast.Attribute) and part.attr in CHANGES:
                    self.assertNotIn(getattr(part.value, "id", ""), arguments, (path, node.name))
