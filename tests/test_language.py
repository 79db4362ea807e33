"""The form of the code: the rules of the language that can be read off the files of the package."""

import ast
import builtins
import importlib
import pathlib
import unittest

ROOT = pathlib.Path(__file__).resolve().parent.parent / "hindcost"
FILES = sorted(path for path in ROOT.rglob("*.py"))

# The parts of Python that the package uses; all of them are in the subset.
NODES = (
    "Module Expr FunctionDef ClassDef arguments arg Return Assign AugAssign If While For Raise Break Continue Pass "
    "ImportFrom alias Name Load Store Constant Tuple List Dict Call keyword Attribute Subscript Slice Lambda "
    "Delete Del JoinedStr FormattedValue BinOp Add Sub Mult FloorDiv Mod Pow UnaryOp USub Not BoolOp And Or Compare "
    "Eq NotEq Lt LtE Gt GtE Is IsNot In NotIn "
    "IfExp ListComp DictComp comprehension Try ExceptHandler"
).split()
BUILTINS = (
    "len range enumerate zip min max sum abs sorted reversed int str bool list tuple dict set isinstance repr any all "
    "divmod ValueError KeyError IndexError LookupError ArithmeticError OverflowError RuntimeError NotImplemented"
).split()
LIBRARY = {"math": ["gcd"], "heapq": ["heappop", "heappush"]}
BARRED_NAMES = (
    "register mro elements open input law version_info with_traceback add_note attrgetter breakpoint builtins compile "
    "copyright credits delattr dir eval exec exit gc getattr globals hasattr help id importlib license locals "
    "methodcaller os quit setattr super type vars sys format format_map"
).split()
BARRED_FILES = "test tests testing site conftest sitecustomize usercustomize".split()


def tree_of(path):
    return ast.parse(path.read_text(encoding="ascii"))


def module_of(path):
    parts = path.relative_to(ROOT.parent).with_suffix("").parts
    return ".".join(parts[:-1] if parts[-1] == "__init__" else parts)


def bound_names(tree):
    """All names that functions of the file bind: parameters, and what is assigned."""
    for node in ast.walk(tree):
        if isinstance(node, ast.arg):
            yield node.arg
        elif isinstance(node, ast.Name) and isinstance(node.ctx, ast.Store):
            yield node.id


class TestFiles(unittest.TestCase):
    def test_the_folder_contains_nothing_else(self):
        for path in ROOT.rglob("*"):
            if "__pycache__" in path.parts:
                continue
            if path.is_dir():
                self.assertTrue((path / "__init__.py").is_file(), path)
                self.assertFalse(path.with_suffix(".py").exists(), path)
            else:
                self.assertEqual(path.suffix, ".py")
            name = path.stem
            self.assertTrue(name == "__init__" or (name.isidentifier() and name == name.lower()), path)
            self.assertFalse(name in vars(builtins) or name in BARRED_FILES or name.startswith(("law_", "test_")))

    def test_sizes_and_characters(self):
        for path in FILES:
            text = path.read_bytes().decode("ascii")
            self.assertTrue(all(sign == "\n" or " " <= sign <= "~" for sign in text), path)
            self.assertTrue(text.endswith("\n"), path)
            lines = text.split("\n")
            self.assertLessEqual(len(lines) - 1, 399, path)
            for number, line in enumerate(lines, 1):
                self.assertLessEqual(len(line), 120, (path, number))
            self.assertNotIn("_wall", text)

    def test_length_of_functions(self):
        for path in FILES:
            for node in ast.walk(tree_of(path)):
                if isinstance(node, ast.FunctionDef):
                    self.assertLessEqual(node.end_lineno - node.lineno + 1, 40, (path, node.name))


class TestStatements(unittest.TestCase):
    def test_only_plain_parts_of_python(self):
        for path in FILES:
            for node in ast.walk(tree_of(path)):
                self.assertIn(type(node).__name__, NODES, (path, getattr(node, "lineno", 0)))
                if isinstance(node, ast.Constant):
                    self.assertIn(type(node.value), (int, str, bool, type(None)), (path, node.lineno))
                if isinstance(node, ast.Expr):
                    plain = isinstance(node.value, ast.Call) or isinstance(getattr(node.value, "value", None), str)
                    self.assertTrue(plain, (path, node.lineno))

    def test_module_level(self):
        for path in FILES:
            for node in tree_of(path).body:
                kinds = (ast.Expr, ast.ImportFrom, ast.FunctionDef, ast.ClassDef, ast.Assign)
                self.assertIsInstance(node, kinds, (path, node.lineno))
                if isinstance(node, ast.Assign):
                    self.check_plain_value(path, node)

    def check_plain_value(self, path, node):
        """Integers, strings, None, and tuples, or one list or dict, of these and of functions that stand above."""
        functions = [row for row in tree_of(path).body if isinstance(row, ast.FunctionDef)]
        above = {row.name for row in functions if row.lineno < node.lineno}
        for part in ast.walk(node.value):
            if isinstance(part, ast.Name):
                self.assertIn(part.id, above, (path, node.lineno))
            else:
                kinds = (ast.Constant, ast.Tuple, ast.List, ast.Dict, ast.Load)
                self.assertIsInstance(part, kinds, (path, node.lineno))
            self.assertTrue(part is node.value or not isinstance(part, (ast.List, ast.Dict)), (path, node.lineno))

    def test_no_decorators_and_no_annotations(self):
        for path in FILES:
            for node in ast.walk(tree_of(path)):
                if isinstance(node, (ast.FunctionDef, ast.ClassDef)):
                    self.assertEqual(node.decorator_list, [], (path, node.name))
                if isinstance(node, ast.FunctionDef):
                    self.assertIsNone(node.returns, (path, node.name))
                if isinstance(node, ast.arg):
                    self.assertIsNone(node.annotation, (path, node.lineno))

    def test_nothing_is_nested_in_the_making_of_an_object(self):
        for path in FILES:
            for node in ast.walk(tree_of(path)):
                if isinstance(node, ast.FunctionDef) and node.name == "__init__":
                    inner = [type(part) for part in ast.walk(node)][1:]
                    self.assertFalse({ast.Return, ast.Lambda, ast.FunctionDef} & set(inner), path)

    def test_raise_creates_its_error(self):
        for path in FILES:
            for node in ast.walk(tree_of(path)):
                if isinstance(node, ast.Raise):
                    self.assertIsInstance(node.exc, ast.Call, (path, node.lineno))
                    self.assertIsInstance(node.exc.func, ast.Name, (path, node.lineno))

    def test_is_stands_beside_none_and_truth_alone(self):
        for path in FILES:
            for node in ast.walk(tree_of(path)):
                if isinstance(node, ast.Compare) and isinstance(node.ops[0], (ast.Is, ast.IsNot)):
                    self.assertIn(getattr(node.comparators[0], "value", 0), (None, True, False), (path, node.lineno))


class TestNames(unittest.TestCase):
    def test_imports(self):
        for path in FILES:
            body = tree_of(path).body
            places = [at for at, node in enumerate(body) if isinstance(node, ast.ImportFrom)]
            self.assertEqual(places, list(range(1, len(places) + 1)), path)
            for at in places:
                source = importlib.import_module(body[at].module)
                if body[at].module in LIBRARY:
                    for name in body[at].names:
                        self.assertIsNone(name.asname, path)
                        self.assertIn(name.name, LIBRARY[body[at].module], path)
                    continue
                self.assertTrue(body[at].module.startswith("hindcost.") and body[at].level == 0, path)
                for name in body[at].names:
                    self.assertIsNone(name.asname, path)
                    found = getattr(source, name.name)
                    self.assertEqual(getattr(found, "__module__", body[at].module), body[at].module, path)

    def test_imports_are_used(self):
        for path in FILES:
            tree = tree_of(path)
            used = {node.id for node in ast.walk(tree) if isinstance(node, ast.Name)}
            for node in tree.body:
                if isinstance(node, ast.ImportFrom):
                    for name in node.names:
                        self.assertIn(name.name, used, path)

    def test_no_file_imports_itself_through_others(self):
        imports = {
            module_of(path): {node.module for node in tree_of(path).body if isinstance(node, ast.ImportFrom)}
            for path in FILES
        }
        left = dict(imports)
        while left:
            ready = [name for name in left if not any(other in left for other in left[name])]
            self.assertTrue(ready, left)
            for name in ready:
                del left[name]

    def test_names_are_bound_once_and_plain(self):
        for path in FILES:
            tree = tree_of(path)
            imported = {name.name for node in tree.body if isinstance(node, ast.ImportFrom) for name in node.names}
            classes = {node.name for node in tree.body if isinstance(node, ast.ClassDef)}
            own = [node.name for node in tree.body if isinstance(node, (ast.FunctionDef, ast.ClassDef))]
            own += [node.targets[0].id for node in tree.body if isinstance(node, ast.Assign)]
            self.assertEqual(len(own), len(set(own)), path)
            for name in list(bound_names(tree)) + own:
                self.assertFalse(name in vars(builtins), (path, name))
                self.assertNotIn(name, imported, path)
                self.assertNotIn(name, BARRED_NAMES, path)
            for name in bound_names(tree):
                self.assertNotIn(name, classes, path)

    def test_names_of_the_library_are_only_called(self):
        names = {name for known in LIBRARY.values() for name in known}
        for path in FILES:
            tree = tree_of(path)
            called = {id(node.func) for node in ast.walk(tree) if isinstance(node, ast.Call) and not node.keywords}
            for node in ast.walk(tree):
                if isinstance(node, ast.Name) and node.id in names:
                    self.assertIn(id(node), called, (path, node.lineno))

    def test_only_own_errors_are_caught(self):
        for path in FILES:
            for node in ast.walk(tree_of(path)):
                if isinstance(node, ast.ExceptHandler):
                    self.assertIsInstance(node.type, ast.Name, (path, node.lineno))
                    self.assertFalse(node.type.id in vars(builtins), (path, node.lineno))

    def test_exponents_are_literal(self):
        for path in FILES:
            for node in ast.walk(tree_of(path)):
                if isinstance(node, ast.BinOp) and isinstance(node.op, ast.Pow):
                    self.assertIn(getattr(node.right, "value", None), list(range(65)), (path, node.lineno))

    def test_texts_have_plain_signs_and_formats(self):
        for path in FILES:
            for node in ast.walk(tree_of(path)):
                if isinstance(node, ast.FormattedValue):
                    self.assertIsNone(node.format_spec, (path, node.lineno))
                    self.assertEqual(node.conversion, -1, (path, node.lineno))
                if isinstance(node, ast.Constant) and isinstance(node.value, str):
                    self.assertNotIn("%", node.value, (path, node.lineno))

    def test_lengths_and_texts_of_objects(self):
        # They only return something, so that nothing can be changed by them.
        for path in FILES:
            for node in ast.walk(tree_of(path)):
                if isinstance(node, ast.FunctionDef) and node.name in ("__len__", "__str__"):
                    self.assertEqual([type(row) for row in node.body], [ast.Return], (path, node.lineno))

    def test_no_name_is_a_method_and_an_attribute(self):
        methods = set()
        attributes = set()
        for path in FILES:
            for node in ast.walk(tree_of(path)):
                if isinstance(node, ast.ClassDef):
                    methods |= {row.name for row in node.body if isinstance(row, ast.FunctionDef)}
                if isinstance(node, ast.Attribute) and isinstance(node.ctx, ast.Store):
                    attributes.add(node.attr)
        self.assertEqual(methods & attributes, set())

    def test_ranges_beside_a_key_are_lists(self):
        for path in FILES:
            for node in ast.walk(tree_of(path)):
                if isinstance(node, ast.Call) and getattr(node.func, "id", "") in ("min", "max") and node.keywords:
                    self.assertNotIn(getattr(getattr(node.args[0], "func", None), "id", ""), ("range", "zip", "map"))

    def test_builtins(self):
        for path in FILES:
            for node in ast.walk(tree_of(path)):
                if isinstance(node, ast.Name) and node.id in vars(builtins):
                    self.assertIn(node.id, BUILTINS, (path, node.lineno))


if __name__ == "__main__":
    unittest.main()
