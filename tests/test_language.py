"""The rules of LANGUAGE.md that a look at the package's source can tell."""

import ast
import builtins
import unittest
from pathlib import Path

ROOT = Path(__file__).resolve().parent.parent
PACKAGE = ROOT / "perfectorders"
FILES = sorted(PACKAGE.rglob("*.py"))
TREES = {path: ast.parse(path.read_text()) for path in FILES}

BUILTINS = set("len range enumerate zip min max sum abs sorted reversed int str bool list tuple dict set isinstance "
               "repr any all divmod iter type Exception NotImplemented property classmethod staticmethod".split())
METHODS = set("append clear copy count endswith extend find get index insert isalnum isalpha isdigit islower isspace "
              "isupper items join keys ljust lower lstrip partition pop remove replace reverse rfind rjust rpartition "
              "rsplit rstrip setdefault split splitlines startswith strip update upper values zfill bit_length "
              "add discard".split())
STATEMENTS = (ast.Assign, ast.If, ast.While, ast.For, ast.Return, ast.Break, ast.Continue, ast.Pass, ast.Raise,
              ast.Try, ast.With, ast.Expr, ast.FunctionDef, ast.ClassDef, ast.ImportFrom)
SIGNS = set("__init__ __eq__ __len__ __iter__ __invert__ __add__ __mul__ __contains__ __getitem__ __bool__ __call__ "
            "__enter__ __exit__".split())
LIBRARY = {"math": {"comb"}}
BARRED = set("type typing enum Enum Flag Generic Protocol ABC namedtuple dataclass overload register mro elements open "
             "input law id dir vars help exit quit sys os eval exec compile globals locals".split())


def nodes(kind):
    for path, tree in TREES.items():
        for node in ast.walk(tree):
            if isinstance(node, kind):
                yield path.name, node


def is_plain(value):
    """A literal: a constant, a tuple of literals, or a dict of literals that holds no dict."""
    if isinstance(value, ast.Tuple):
        return all(is_plain(part) and not isinstance(part, ast.Dict) for part in value.elts)
    if isinstance(value, ast.Dict):
        return all(is_plain(part) and not isinstance(part, ast.Dict) for part in [*value.keys, *value.values])
    return isinstance(value, ast.Constant)


class Language(unittest.TestCase):
    def test_files(self):
        others = [path for path in PACKAGE.rglob("*") if "__pycache__" not in path.parts and path not in FILES]
        self.assertEqual(others, [])
        self.assertLessEqual(len(FILES), 100)
        self.assertEqual((PACKAGE / "__init__.py").read_text(), "")

    def test_characters_and_sizes(self):
        for path in FILES:
            text = path.read_text()
            self.assertLessEqual({sign for sign in text if not " " <= sign <= "~"}, {"\n"}, path.name)
            lines = text.split("\n")
            self.assertLessEqual(len(lines), 400, path.name)
            self.assertEqual([line for line in lines if len(line) > 120 or line != line.rstrip()], [], path.name)

    def test_functions_are_small(self):
        for name, node in nodes(ast.FunctionDef):
            self.assertLessEqual(node.end_lineno - node.lineno + 1, 40, (name, node.name))

    def test_statements(self):
        for name, node in nodes(ast.stmt):
            self.assertIsInstance(node, STATEMENTS, (name, node.lineno))

    def test_module_level(self):
        for path, tree in TREES.items():
            for node in tree.body:
                docstring = isinstance(node, ast.Expr) and isinstance(node.value, ast.Constant)
                plain = isinstance(node, ast.Assign) and is_plain(node.value)
                code = isinstance(node, (ast.ImportFrom, ast.FunctionDef, ast.ClassDef))
                self.assertTrue(docstring or plain or code, path)

    def test_imports_name_the_defining_file_and_have_no_ring(self):
        defined = {path.stem: {node.name for node in tree.body if isinstance(node, (ast.FunctionDef, ast.ClassDef))}
                   for path, tree in TREES.items()}
        imported = {path.stem: set() for path in FILES}
        for name, node in nodes(ast.ImportFrom):
            if node.module in LIBRARY:
                self.assertLessEqual({alias.name for alias in node.names}, LIBRARY[node.module], name)
                continue
            package, module = node.module.split(".")
            self.assertEqual((package, node.level), ("perfectorders", 0), name)
            imported[name.removesuffix(".py")].add(module)
            for alias in node.names:
                self.assertIsNone(alias.asname)
                self.assertIn(alias.name, defined[module], (name, alias.name))
        while imported:
            free = [module for module, others in imported.items() if not others & set(imported)]
            self.assertTrue(free, imported)
            for module in free:
                del imported[module]

    def test_imported_names_are_used_and_mean_nothing_else(self):
        for path, tree in TREES.items():
            names = {alias.name for node in ast.walk(tree) if isinstance(node, ast.ImportFrom) for alias in node.names}
            classes = {node.name for node in ast.walk(tree) if isinstance(node, ast.ClassDef)}
            read = {node.id for node in ast.walk(tree) if isinstance(node, ast.Name) and isinstance(node.ctx, ast.Load)}
            set_here = {node.id for node in ast.walk(tree)
                        if isinstance(node, ast.Name) and not isinstance(node.ctx, ast.Load)}
            set_here |= {node.arg for node in ast.walk(tree) if isinstance(node, ast.arg)}
            self.assertEqual(names - read, set(), path.name)
            self.assertEqual(set_here & (names | classes), set(), path.name)
            self.assertEqual(set_here & (set(dir(builtins)) | BARRED), set(), path.name)

    def test_builtins_and_methods(self):
        own = {node.name for _, node in nodes((ast.FunctionDef, ast.ClassDef))}
        for name, node in nodes(ast.Name):
            if isinstance(node.ctx, ast.Load) and node.id in dir(builtins):
                self.assertIn(node.id, BUILTINS, (name, node.lineno))
        for name, node in nodes(ast.Call):
            if isinstance(node.func, ast.Attribute):
                self.assertIn(node.func.attr, METHODS | own, (name, node.lineno))

    def test_expressions(self):
        barred = (ast.GeneratorExp, ast.Lambda, ast.Div, ast.MatMult, ast.NamedExpr, ast.Await, ast.Global, ast.Delete)
        self.assertEqual([(name, node) for name, node in nodes(barred)], [])
        for name, node in nodes(ast.Constant):
            self.assertNotIsInstance(node.value, (float, complex, bytes), name)
            if isinstance(node.value, str):
                self.assertNotIn("%", node.value, name)
        for name, node in nodes(ast.Compare):
            for sign, other in zip(node.ops, node.comparators):
                if isinstance(sign, (ast.Is, ast.IsNot)):
                    self.assertIs(other.value, None, (name, node.lineno))

    def test_generators_and_ranges_are_not_passed_on(self):
        generators = {node.name for _, node in nodes(ast.FunctionDef)
                      if any(isinstance(inner, (ast.Yield, ast.YieldFrom)) for inner in ast.walk(node))}
        at_once = {"list", "tuple", "sorted", "sum", "any", "all", "enumerate", "zip", "max", "min", "len", "reversed"}
        for path, tree in TREES.items():
            parents = {child: node for node in ast.walk(tree) for child in ast.iter_child_nodes(node)}
            for node in ast.walk(tree):
                if not isinstance(node, ast.Call) or not isinstance(node.func, ast.Name):
                    continue
                if node.func.id not in generators | {"range", "zip", "enumerate", "reversed"}:
                    continue
                above = parents[node]
                fits = isinstance(above, (ast.For, ast.comprehension, ast.YieldFrom))
                fits = fits or (isinstance(above, ast.Call) and isinstance(above.func, ast.Name)
                                and above.func.id in at_once)
                self.assertTrue(fits, (path.name, node.lineno))

    def test_reversed_and_stars(self):
        for name, node in nodes(ast.Call):
            if isinstance(node.func, ast.Name) and node.func.id == "reversed":
                inner = node.args[0]
                self.assertIsInstance(inner, ast.Call, (name, node.lineno))
                self.assertIn(inner.func.id, ("range", "list", "tuple", "sorted"), (name, node.lineno))
            for argument in node.args:
                if isinstance(argument, ast.Starred):
                    self.assertIsInstance(argument.value, (ast.Name, ast.Attribute), (name, node.lineno))
        for name, node in nodes((ast.List, ast.Tuple)):
            for part in node.elts:
                if isinstance(part, ast.Starred) and isinstance(part.value, ast.Call):
                    self.assertEqual(part.value.func.id, "sorted", (name, node.lineno))

    def test_methods_attributes_and_generators_have_names_of_their_own(self):
        functions = [node for _, node in nodes(ast.FunctionDef)]
        methods = {node.name for _, made in nodes(ast.ClassDef) for node in made.body
                   if isinstance(node, ast.FunctionDef)}
        attributes = {node.attr for _, node in nodes(ast.Attribute) if isinstance(node.ctx, ast.Store)}
        self.assertEqual(methods & attributes, set())
        read = {node.attr for _, node in nodes(ast.Attribute) if isinstance(node.ctx, ast.Load)}
        class_values = {target.id for _, made in nodes(ast.ClassDef) for node in made.body
                        if isinstance(node, ast.Assign) for target in node.targets}
        # A property's setter, and the name of an error's class in trials.py.
        self.assertEqual(read - methods - attributes - METHODS - class_values, {"setter", "__name__"})
        generators = [node.name for node in functions
                      if any(isinstance(inner, (ast.Yield, ast.YieldFrom)) for inner in ast.walk(node))]
        for name in generators:
            # The document gives Notes and MaybeWeb a generator each of the name `worlds`.
            many = 2 if name == "worlds" else 1
            self.assertEqual([node.name for node in functions].count(name), many, name)
            self.assertEqual(generators.count(name), many, name)
            self.assertNotIn(name, METHODS)

    def test_local_names_are_no_names_of_the_file(self):
        for path, tree in TREES.items():
            own = {node.name for node in tree.body if isinstance(node, (ast.FunctionDef, ast.ClassDef))}
            local = {node.id for function in ast.walk(tree) if isinstance(function, ast.FunctionDef)
                     for node in ast.walk(function) if isinstance(node, ast.Name) and isinstance(node.ctx, ast.Store)}
            local |= {node.arg for node in ast.walk(tree) if isinstance(node, ast.arg)}
            self.assertEqual(own & local, set(), path.name)

    def test_what_is_passed_to_a_generator(self):
        generators = {node.name for _, node in nodes(ast.FunctionDef)
                      if any(isinstance(inner, (ast.Yield, ast.YieldFrom)) for inner in ast.walk(node))}
        for name, node in nodes(ast.Call):
            called = getattr(node.func, "id", getattr(node.func, "attr", ""))
            if called in generators:
                for argument in node.args:
                    self.assertIsInstance(argument, (ast.Name, ast.Attribute, ast.Constant), (name, node.lineno))

    def test_decorators_and_classes(self):
        for name, node in nodes((ast.FunctionDef, ast.ClassDef)):
            told = [ast.unparse(decorator) for decorator in node.decorator_list]
            setter = [f"{node.name}.setter"]
            self.assertIn(told, ([], ["property"], ["classmethod"], ["staticmethod"], setter), (name, node.name))
            if told == setter:
                self.assertEqual([argument.arg for argument in node.args.args], ["self", "value"])
            if node.name.startswith("__"):
                self.assertIn(node.name, SIGNS, name)

    def test_slots(self):
        taken = {node.name for _, made in nodes(ast.ClassDef) for node in made.body if isinstance(node, ast.FunctionDef)}
        found = [node.value for _, made in nodes(ast.ClassDef) for node in made.body
                 if isinstance(node, ast.Assign) and node.targets[0].id == "__slots__"]
        self.assertEqual(len(found), 1)
        slots = [part.value for part in found[0].elts]
        self.assertEqual((set(slots) & (taken | METHODS), len(set(slots))), (set(), len(slots)))
        self.assertEqual([name for name, node in nodes(ast.ClassDef) if len(node.bases) > 1], [])

    def test_blocks(self):
        """What stands in `__exit__` and in the method that it calls: assignments of names and attributes alone."""
        for name, node in nodes(ast.With):
            self.assertEqual([ast.unparse(item) for item in node.items], ["Trial(desk)"], name)
        for name, made in nodes(ast.ClassDef):
            methods = {node.name: node for node in made.body if isinstance(node, ast.FunctionDef)}
            for label in {"__exit__", "leave"} & set(methods):
                for row in methods[label].body:
                    call = ast.unparse(row) == "self.leave()"
                    self.assertTrue(call or isinstance(row, ast.Assign), (name, row.lineno))
                    if not call:
                        self.assertIsInstance(row.value, ast.Attribute)
                        self.assertIsInstance(row.value.value, ast.Name)

    def test_properties_assign_nothing(self):
        for name, node in nodes(ast.FunctionDef):
            if "property" in [ast.unparse(decorator) for decorator in node.decorator_list]:
                for inner in ast.walk(node):
                    self.assertNotIsInstance(inner, (ast.Assign, ast.AugAssign), (name, node.name))

    def test_kinds_are_asked_for_their_names_alone(self):
        for path, tree in TREES.items():
            parents = {child: node for node in ast.walk(tree) for child in ast.iter_child_nodes(node)}
            for node in ast.walk(tree):
                if isinstance(node, ast.Name) and node.id == "type":
                    above = parents[parents[node]]
                    self.assertTrue(isinstance(above, ast.Attribute) and above.attr == "__name__", path.name)

    def test_raise_creates_its_error(self):
        for name, node in nodes(ast.Raise):
            self.assertIsInstance(node.exc, ast.Call, (name, node.lineno))
            self.assertIsInstance(node.exc.func, ast.Name, (name, node.lineno))

    def test_sets_are_read_sorted_or_by_in(self):
        for name, node in nodes(ast.Set):
            self.fail((name, node.lineno))
        for name, node in nodes(ast.For):
            if isinstance(node.iter, ast.Call) and isinstance(node.iter.func, ast.Name):
                self.assertNotEqual(node.iter.func.id, "set", (name, node.lineno))


if __name__ == "__main__":
    unittest.main()
