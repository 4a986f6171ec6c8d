"""The package keeps to the subset of Python that it is to be written in, as far as a look at its trees can tell."""

import ast
import pathlib
import re
import unittest

FOLDER = pathlib.Path(__file__).resolve().parent.parent / "forktales"
FILES = sorted(FOLDER.glob("*.py"))
BUILTINS = set(
    "len range enumerate zip min max sum abs sorted reversed int str bool list tuple dict set isinstance ord repr any all "
    "divmod ValueError LookupError KeyError True False None NotImplemented".split()
)
BARRED = set(
    "register mro elements open input law version_info with_traceback add_note eval exec getattr setattr hasattr globals locals "
    "vars dir id type super compile help exit quit os sys builtins delattr hash format filter map next iter object slice "
    "property staticmethod classmethod".split()
)
STATEMENTS = (
    ast.Assign, ast.AugAssign, ast.If, ast.While, ast.For, ast.Return, ast.Break, ast.Continue, ast.Pass, ast.Raise, ast.Assert,
    ast.Delete, ast.Nonlocal, ast.Try, ast.Expr, ast.FunctionDef, ast.ClassDef, ast.ImportFrom,
)


def trees():
    return [(path, ast.parse(path.read_text())) for path in FILES]


def parents(tree):
    return {child: node for node in ast.walk(tree) for child in ast.iter_child_nodes(node)}


class Files(unittest.TestCase):
    def test_only_plain_files(self):
        names = [path.name for path in FOLDER.iterdir() if path.name != "__pycache__"]
        for name in names:
            self.assertRegex(name, r"^[a-z_]+\.py$")
        self.assertIn("__init__.py", names)
        self.assertLessEqual(len(names), 100)

    def test_sizes_and_signs(self):
        for path in FILES:
            text = path.read_text()
            self.assertTrue(all(sign == "\n" or " " <= sign <= "~" for sign in text), path)
            lines = text.split("\n")
            self.assertLessEqual(len(lines), 399, path)
            self.assertLessEqual(max(map(len, lines)), 120, path)
        for path, tree in trees():
            for node in ast.walk(tree):
                if isinstance(node, ast.FunctionDef):
                    self.assertLessEqual(node.end_lineno - node.lineno + 1, 40, (path, node.name))

    def test_words_that_stand_nowhere(self):
        words = r"\b(type|typing|enum|Enum|Flag|Generic|Protocol|ABC|namedtuple|NamedTuple|abstractmethod)\b|dataclass|_wall"
        for path in FILES:
            self.assertIsNone(re.search(words, path.read_text()), path)


class Imports(unittest.TestCase):
    def test_from_the_very_files_without_rings(self):
        leads = {}
        for path, tree in trees():
            leads[path.stem] = []
            for node in ast.walk(tree):
                self.assertNotIsInstance(node, ast.Import, path)
                if not isinstance(node, ast.ImportFrom):
                    continue
                self.assertIn(node, tree.body)
                self.assertTrue(node.module.startswith("forktales."), path)
                other = node.module.removeprefix("forktales.")
                leads[path.stem].append(other)
                defined = {part.name for part in ast.parse((FOLDER / (other + ".py")).read_text()).body
                           if isinstance(part, (ast.FunctionDef, ast.ClassDef))}
                defined |= {part.targets[0].id for part in ast.parse((FOLDER / (other + ".py")).read_text()).body
                            if isinstance(part, ast.Assign)}
                for name in node.names:
                    self.assertIsNone(name.asname)
                    self.assertIn(name.name, defined, path)
        done = set()
        while len(done) < len(leads):
            free = {name for name, others in leads.items() if name not in done and set(others) <= done}
            self.assertTrue(free, set(leads) - done)
            done |= free

    def test_all_that_is_imported_is_used(self):
        for path, tree in trees():
            used = {node.id for node in ast.walk(tree) if isinstance(node, ast.Name)}
            for node in tree.body:
                if isinstance(node, ast.ImportFrom):
                    for name in node.names:
                        self.assertIn(name.name, used, path)


class Statements(unittest.TestCase):
    def test_only_plain_ones(self):
        for path, tree in trees():
            for node in ast.walk(tree):
                if isinstance(node, ast.stmt):
                    self.assertIsInstance(node, STATEMENTS, (path, node.lineno))
                self.assertNotIsInstance(node, (ast.GeneratorExp, ast.Yield, ast.YieldFrom, ast.Await, ast.Div, ast.NamedExpr), path)

    def test_module_level(self):
        for path, tree in trees():
            for k, node in enumerate(tree.body):
                if isinstance(node, ast.Expr):
                    self.assertEqual(k, 0, path)
                    self.assertIsInstance(node.value.value, str)
                else:
                    self.assertIsInstance(node, (ast.ImportFrom, ast.FunctionDef, ast.ClassDef, ast.Assign), path)
                if isinstance(node, ast.Assign):
                    above = {part.name for part in tree.body[:k] if isinstance(part, ast.FunctionDef)}
                    for part in ast.walk(node.value):
                        self.assertNotIsInstance(part, (ast.Call, ast.ListComp, ast.DictComp, ast.SetComp), path)
                        if isinstance(part, ast.Name):
                            self.assertIn(part.id, above, path)

    def test_docstrings_and_strings(self):
        for path, tree in trees():
            self.assertTrue(ast.get_docstring(tree), path)
            for node in ast.walk(tree):
                if isinstance(node, ast.Constant):
                    self.assertIsInstance(node.value, (int, str, type(None)), path)
                    if isinstance(node.value, str):
                        self.assertNotIn("%", node.value, path)

    def test_names(self):
        for path, tree in trees():
            imported = {name.name for node in tree.body if isinstance(node, ast.ImportFrom) for name in node.names}
            top = [node.name for node in tree.body if isinstance(node, (ast.FunctionDef, ast.ClassDef))]
            top += [node.targets[0].id for node in tree.body if isinstance(node, ast.Assign)] + list(imported)
            self.assertEqual(len(top), len(set(top)), path)
            for node in ast.walk(tree):
                for name in self.bound(node):
                    self.assertNotIn(name, BARRED | BUILTINS, path)
                    self.assertNotIn(name, imported, path)
                    self.assertFalse(name.startswith("__"), path)

    def bound(self, node):
        if isinstance(node, ast.Name) and isinstance(node.ctx, ast.Store):
            return [node.id]
        if isinstance(node, ast.arg):
            return [node.arg]
        if isinstance(node, (ast.FunctionDef, ast.ClassDef)) and node.name not in ("__init__", "__len__", "__str__", "__eq__", "__ne__"):
            return [node.name]
        return []

    def test_builtins(self):
        for path, tree in trees():
            bound = {name for node in ast.walk(tree) for name in self.bound(node)}
            bound |= {name.name for node in tree.body if isinstance(node, ast.ImportFrom) for name in node.names}
            bound |= {node.name for node in ast.walk(tree) if isinstance(node, ast.ExceptHandler)}
            for node in ast.walk(tree):
                if isinstance(node, ast.Name) and node.id not in bound:
                    self.assertIn(node.id, BUILTINS, path)

    def test_sets_stand_in_sorted_and_len_alone(self):
        for path, tree in trees():
            above = parents(tree)
            for node in ast.walk(tree):
                is_call = isinstance(node, ast.Call) and isinstance(node.func, ast.Name) and node.func.id == "set"
                if is_call or isinstance(node, (ast.SetComp, ast.Set)):
                    call = above[node]
                    self.assertIsInstance(call, ast.Call, path)
                    self.assertIn(call.func.id, ("sorted", "len"), path)

    def test_reversed_zip_and_enumerate_are_iterated_at_once(self):
        for path, tree in trees():
            above = parents(tree)
            for node in ast.walk(tree):
                if isinstance(node, ast.Call) and isinstance(node.func, ast.Name) and node.func.id in ("zip", "reversed", "enumerate", "range"):
                    around = above[node]
                    if isinstance(around, ast.Call):
                        self.assertIn(around.func.id, ("list", "tuple", "dict", "sorted"), path)
                    else:
                        self.assertIsInstance(around, (ast.For, ast.comprehension), path)

    def test_is_stands_beside_none(self):
        for path, tree in trees():
            for node in ast.walk(tree):
                if isinstance(node, ast.Compare) and any(isinstance(sign, (ast.Is, ast.IsNot)) for sign in node.ops):
                    self.assertIsInstance(node.comparators[0], ast.Constant, path)

    def test_no_star_stands_in_an_index_or_a_set(self):
        for path, tree in trees():
            for node in ast.walk(tree):
                if isinstance(node, ast.Subscript):
                    self.assertFalse([part for part in ast.walk(node.slice) if isinstance(part, ast.Starred)], (path, node.lineno))
                if isinstance(node, ast.Set):
                    self.assertFalse([part for part in node.elts if isinstance(part, ast.Starred)], (path, node.lineno))

    def test_what_operators_and_texts_of_objects_assign(self):
        """Nothing: they return at once."""
        for path, tree in trees():
            for node in ast.walk(tree):
                if isinstance(node, ast.FunctionDef) and node.name in ("__eq__", "__ne__", "__str__", "__repr__", "__len__"):
                    self.assertEqual([type(part) for part in node.body], [ast.Return], (path, node.name))

    def test_no_name_is_a_method_and_an_attribute(self):
        methods, attributes = {}, {}
        for path, tree in trees():
            for node in ast.walk(tree):
                if isinstance(node, ast.ClassDef):
                    methods.update({part.name: path for part in node.body if isinstance(part, ast.FunctionDef)})
                if isinstance(node, ast.Attribute) and isinstance(node.ctx, ast.Store):
                    attributes[node.attr] = path
        self.assertFalse(set(methods) & set(attributes))

    def test_what_is_gone_through_is_not_changed_in_the_loop(self):
        """By its name, as far as it has one."""
        for path, tree in trees():
            for node in ast.walk(tree):
                if isinstance(node, ast.For):
                    gone_through = {ast.unparse(part) for part in ast.walk(node.iter) if isinstance(part, (ast.Name, ast.Attribute))}
                    for part in ast.walk(ast.Module(node.body, [])):
                        if isinstance(part, ast.Call) and isinstance(part.func, ast.Attribute):
                            if part.func.attr in ("append", "extend", "pop", "update", "setdefault", "clear", "insert", "remove"):
                                self.assertNotIn(ast.unparse(part.func.value), gone_through, (path, part.lineno))
                        if isinstance(part, ast.Subscript) and isinstance(part.ctx, (ast.Store, ast.Del)):
                            self.assertNotIn(ast.unparse(part.value), gone_through, (path, part.lineno))

    def test_methods_and_functions_that_are_called_where_they_stand(self):
        """No method is passed on; a function from a table has a name of its own first."""
        for path, tree in trees():
            for node in ast.walk(tree):
                if isinstance(node, ast.Call):
                    self.assertNotIsInstance(node.func, (ast.Subscript, ast.Call), (path, node.lineno))

    def test_finally_holds_little(self):
        for path, tree in trees():
            for node in ast.walk(tree):
                if isinstance(node, ast.Try):
                    for part in node.finalbody:
                        self.assertIsInstance(part, (ast.Assign, ast.AugAssign), (path, part.lineno))
                    for handler in node.handlers:
                        names = handler.type.elts if isinstance(handler.type, ast.Tuple) else [handler.type]
                        self.assertFalse([name.id for name in names if name.id in BUILTINS], (path, handler.lineno))

    def test_raise_makes_its_error_on_the_spot(self):
        for path, tree in trees():
            for node in ast.walk(tree):
                if isinstance(node, ast.Raise) and node.exc is not None:
                    self.assertIsInstance(node.exc, ast.Call, path)


if __name__ == "__main__":
    unittest.main()
