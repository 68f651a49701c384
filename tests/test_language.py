"""That the files of the package keep to the small subset of Python, as far as a look at each file alone tells."""

import ast
import builtins
import pathlib
import unittest

FOLDER = pathlib.Path(__file__).resolve().parent.parent / "instances"
FILES = sorted(path for path in FOLDER.rglob("*") if path.is_file() and "__pycache__" not in path.parts)
BUILTINS = set(
    "len range enumerate zip min max sum abs sorted reversed int str bool bytes list tuple dict set frozenset isinstance "
    "ord repr any all divmod ValueError".split()
)
# A console of Python keeps its last answer as _ among them.
TAKEN = set(dir(builtins)) - {"_"}
METHODS = set(
    "append clear copy count endswith extend find get index insert isalnum isalpha isdigit islower isspace isupper items "
    "join keys ljust lower lstrip partition pop remove replace reverse rfind rjust rpartition rsplit rstrip setdefault split "
    "splitlines startswith strip update upper values zfill bit_length add discard sort".split()
)
BARRED = set(
    "mro elements open input law version_info with_traceback add_note register type typing enum attrgetter breakpoint builtins "
    "compile delattr dir eval exec exit gc globals help importlib locals methodcaller os super vars sys __name__".split()
)
STATEMENTS = (
    ast.Assign, ast.AugAssign, ast.If, ast.While, ast.For, ast.Return, ast.Break, ast.Continue, ast.Pass, ast.Raise,
    ast.Assert, ast.Delete, ast.Try, ast.Expr, ast.FunctionDef, ast.ClassDef, ast.ImportFrom,
)


def tree_of(path):
    return ast.parse(path.read_text())


def nodes(kinds):
    """Each file's name with each node of these kinds in it."""
    return [(path.name, node) for path in FILES for node in ast.walk(tree_of(path)) if isinstance(node, kinds)]


def bound_names(tree):
    """All names that a file binds, at whatever place."""
    found = []
    for node in ast.walk(tree):
        if isinstance(node, (ast.FunctionDef, ast.ClassDef)):
            found.append(node.name)
        elif isinstance(node, ast.arg):
            found.append(node.arg)
        elif isinstance(node, ast.Name) and isinstance(node.ctx, ast.Store):
            found.append(node.id)
        elif isinstance(node, ast.alias):
            found.append(node.asname or node.name)
    return found


def names_defined(tree):
    """The names that a file defines, those of imports left out."""
    found = [node.name for node in tree.body if isinstance(node, (ast.FunctionDef, ast.ClassDef))]
    return found + [node.targets[0].id for node in tree.body if isinstance(node, ast.Assign)]


class LanguageTest(unittest.TestCase):
    def test_files(self):
        self.assertIn("__init__.py", [path.name for path in FILES])
        for path in FILES:
            self.assertRegex(path.name, r"^[a-z_][a-z0-9_]*\.py$")
            text = path.read_text()
            self.assertLessEqual(set(text), set("\n") | {chr(sign) for sign in range(32, 127)}, path.name)
            lines = text.split("\n")
            self.assertLessEqual(len(lines), 399, path.name)
            self.assertLessEqual(max(len(line) for line in lines), 120, path.name)

    def test_functions_are_short_and_bare(self):
        for name, node in nodes((ast.FunctionDef, ast.ClassDef)):
            self.assertEqual(node.decorator_list, [], (name, node.name))
            self.assertTrue(ast.get_docstring(node) or node.name == "__init__", (name, node.name))
            if isinstance(node, ast.FunctionDef):
                self.assertLessEqual(node.end_lineno - node.lineno + 1, 40, (name, node.name))

    def test_imports_name_the_file_that_defines_the_name_and_never_come_round(self):
        defined = {path.stem: names_defined(tree_of(path)) for path in FILES}
        used = {path.stem: [] for path in FILES}
        self.assertEqual(nodes(ast.Import), [])
        for name, node in nodes(ast.ImportFrom):
            folder, _, file = node.module.partition(".")
            self.assertEqual((folder, node.level), ("instances", 0), name)
            for alias in node.names:
                self.assertIsNone(alias.asname)
                self.assertIn(alias.name, defined[file], name)
            used[name[:-3]].append(file)
        while used:
            ready = [name for name in used if not any(other in used for other in used[name])]
            self.assertNotEqual(ready, [], "these import one another: " + ", ".join(used))
            used = {name: used[name] for name in used if name not in ready}

    def test_module_level_has_definitions_alone(self):
        for path in FILES:
            tree = tree_of(path)
            self.assertIsNotNone(ast.get_docstring(tree), path.name)
            functions = []
            for node in tree.body[1:]:
                self.assertIsInstance(node, (ast.ImportFrom, ast.FunctionDef, ast.ClassDef, ast.Assign), path.name)
                if isinstance(node, ast.FunctionDef):
                    functions.append(node.name)
                if isinstance(node, ast.Assign):
                    self.assertEqual(len(node.targets), 1)
                    self.check_plain(node.value, functions)

    def check_plain(self, value, functions):
        """A plain value, or a dict of such and of functions that are defined above it."""
        if isinstance(value, ast.Dict) and all(isinstance(part, ast.Name) for part in value.values):
            for key, part in zip(value.keys, value.values):
                self.assertIsInstance(ast.literal_eval(key), str)
                self.assertIn(part.id, functions)
        else:
            self.assertTrue(repr(ast.literal_eval(value)))

    def test_statements_and_expressions(self):
        for name, node in nodes(ast.stmt):
            self.assertIsInstance(node, STATEMENTS, (name, node.lineno))
        for name, node in nodes((ast.Div, ast.Await, ast.Global, ast.MatMult, ast.AsyncFor, ast.With)):
            self.fail((name, node))
        for name, node in nodes(ast.Constant):
            self.assertNotIsInstance(node.value, (float, complex), name)
            self.assertFalse(isinstance(node.value, str) and "%" in node.value, name)

    def test_names(self):
        for path in FILES:
            bound = bound_names(tree_of(path))
            for name in bound:
                self.assertNotIn(name, TAKEN, path.name)
                self.assertNotIn(name, BARRED, path.name)
                self.assertFalse(name.startswith("__") and name != "__init__", (path.name, name))
            tops = [node.name for node in tree_of(path).body if hasattr(node, "name")]
            imported = [
                alias.name for node in tree_of(path).body if isinstance(node, ast.ImportFrom) for alias in node.names
            ]
            for name in tops + imported:
                self.assertEqual(bound.count(name), 1, (path.name, name))
            for node in ast.walk(tree_of(path)):
                if isinstance(node, ast.Name) and node.id in TAKEN:
                    self.assertIn(node.id, BUILTINS, path.name)

    def test_methods(self):
        own = {node.name for _, node in nodes(ast.FunctionDef)}
        kept = {node.attr for _, node in nodes(ast.Attribute) if isinstance(node.ctx, ast.Store)}
        for name, node in nodes(ast.Attribute):
            self.assertIn(node.attr, METHODS | own | kept, name)
            self.assertNotIn(node.attr, BARRED, name)
        for attribute in kept:
            self.assertNotIn(attribute, METHODS - {"count", "index", "copy"}, "an attribute has the name of a method")

    def test_classes(self):
        for name, node in nodes(ast.ClassDef):
            methods = [part.name for part in node.body if isinstance(part, ast.FunctionDef)]
            self.assertEqual(len(methods), len(set(methods)), (name, node.name))
            stored = {part.attr for part in ast.walk(node) if isinstance(part, ast.Attribute) and isinstance(part.ctx, ast.Store)}
            self.assertFalse(stored & set(methods), (name, node.name))

    def test_errors_are_raised_on_the_spot_and_caught_by_name(self):
        own = set(names_defined(tree_of(FOLDER / "errors.py")))
        for name, node in nodes(ast.Raise):
            self.assertIsInstance(node.exc, ast.Call, name)
            self.assertIn(node.exc.func.id, own, name)
        for name, node in nodes(ast.Try):
            self.assertEqual(node.finalbody, [], name)
            for handler in node.handlers:
                self.assertIn(handler.type.id, own, name)
        for name, node in nodes(ast.FunctionDef):
            self.assertEqual([part for part in ast.walk(node) if isinstance(part, ast.FunctionDef)], [node], name)

    def test_what_is_iterated_at_once(self):
        self.assertEqual(nodes((ast.GeneratorExp, ast.SetComp)), [])
        for name, tree in [(path.name, tree_of(path)) for path in FILES]:
            parents = {child: node for node in ast.walk(tree) for child in ast.iter_child_nodes(node)}
            for node in ast.walk(tree):
                is_view = isinstance(node, ast.Call) and (
                    isinstance(node.func, ast.Name) and node.func.id in ("zip", "enumerate", "reversed", "range")
                    or isinstance(node.func, ast.Attribute) and node.func.attr in ("items", "keys", "values")
                )
                if is_view:
                    parent = parents[node]
                    is_call = isinstance(parent, ast.Call) and isinstance(parent.func, ast.Name) and parent.func.id in (
                        "list", "tuple", "dict", "sorted", "sum", "any", "all", "enumerate", "zip", "min", "max"
                    )
                    self.assertTrue(is_call or isinstance(parent, (ast.For, ast.comprehension)), (name, node.lineno))


if __name__ == "__main__":
    unittest.main()
