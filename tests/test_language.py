"""The rules of LANGUAGE.md that can be seen in the text of the package; the others are looked after by hand."""

import ast
import builtins
import keyword
import pathlib
import re
import unittest

ROOT = pathlib.Path(__file__).resolve().parent.parent
PACKAGE = ROOT / "wholemoment"
BUILTINS = set("""len range enumerate zip min max sum abs sorted reversed int str bool bytes list tuple dict set frozenset
    isinstance ord repr any all divmod pow getattr hasattr setattr iter next map Exception ValueError TypeError KeyError
    IndexError LookupError ZeroDivisionError ArithmeticError OverflowError RuntimeError NotImplementedError AttributeError
    StopIteration NotImplemented property staticmethod classmethod super""".split())
METHODS = set("""append clear copy count endswith extend find get index insert isalnum isalpha isdigit islower isspace isupper
    items join keys ljust lower lstrip partition pop remove replace reverse rfind rjust rpartition rsplit rstrip setdefault
    split splitlines startswith strip update upper values zfill bit_length add discard __init__""".split())
DOUBLE = set("""__init__ __eq__ __repr__ __str__ __len__ __call__ __iter__ __contains__ __lt__ __le__ __gt__ __ge__ __ne__
    __getitem__ __bool__""".split())
STATEMENTS = (
    ast.Assign, ast.AnnAssign, ast.AugAssign, ast.If, ast.While, ast.For, ast.Return, ast.Break, ast.Continue, ast.Pass,
    ast.Raise, ast.Assert, ast.Delete, ast.Nonlocal, ast.Match, ast.With, ast.Try, ast.Expr, ast.FunctionDef,
    ast.ClassDef, ast.ImportFrom,
)
BANNED = set("""register mro elements open input law version_info with_traceback add_note attrgetter breakpoint builtins compile
    copyright credits delattr dir eval exec exit gc globals help id importlib license locals methodcaller os quit type vars sys
    typing enum dataclass namedtuple""".split())
BANNED_STARTS = re.compile(r"_wall|_pe_|_dcw_|_enum_|_cm_|_twin_re_|_lay_|_law_|_stub_|_sre|_WallAttr|__")


def files():
    return sorted(PACKAGE.rglob("*.py"))


def trees():
    return {path: ast.parse(path.read_text()) for path in files()}


def module_name(path):
    return ".".join(path.relative_to(ROOT).with_suffix("").parts)


def functions(tree):
    return [node for node in ast.walk(tree) if isinstance(node, ast.FunctionDef)]


def names_in(function):
    """All that a function gives a name to: its parameters and variables."""
    told = function.args
    found = {argument.arg for argument in told.posonlyargs + told.args + told.kwonlyargs}
    found |= {node.id for node in ast.walk(function) if isinstance(node, ast.Name) and isinstance(node.ctx, ast.Store)}
    return found | {node.name for node in ast.walk(function) if isinstance(node, ast.FunctionDef) and node is not function}


def module_names(tree):
    found = []
    for node in tree.body:
        if isinstance(node, (ast.FunctionDef, ast.ClassDef)):
            found.append(node.name)
        elif isinstance(node, ast.Assign):
            found += [target.id for target in node.targets]
        elif isinstance(node, ast.ImportFrom):
            found += [name.name for name in node.names]
    return found


class FilesTest(unittest.TestCase):
    def test_files(self):
        kept = [path for path in PACKAGE.rglob("*") if "__pycache__" not in path.parts]
        for path in kept:
            self.assertTrue(path.is_dir() or path.suffix == ".py", path)
            self.assertRegex(path.stem, "^[a-z][a-z0-9_]*$|^__init__$")
            self.assertFalse(path.stem in dir(builtins) or path.stem in BANNED or keyword.iskeyword(path.stem), path)
            if path.is_dir():
                self.assertTrue((path / "__init__.py").exists())
                self.assertFalse(path.with_suffix(".py").exists())
        self.assertLessEqual(len(files()), 100)

    def test_lines_and_characters(self):
        for path in files():
            text = path.read_text()
            self.assertLessEqual(text.count("\n"), 399, path)
            self.assertRegex(text, r"\A[ -~\n]*\Z", path)
            for line in text.split("\n"):
                self.assertLessEqual(len(line), 120, (path, line))

    def test_module_level(self):
        for path, tree in trees().items():
            names = module_names(tree)
            self.assertEqual(len(names), len(set(names)), path)
            for node in tree.body:
                plain = isinstance(node, (ast.FunctionDef, ast.ClassDef, ast.ImportFrom))
                told = isinstance(node, ast.Expr) and isinstance(node.value, ast.Constant)
                kept = isinstance(node, ast.Assign) and len(node.targets) == 1 and isinstance(node.targets[0], ast.Name)
                self.assertTrue(plain or told or kept, (path, node.lineno))
                if kept:
                    self.assertFalse([part for part in ast.walk(node.value) if isinstance(part, (ast.Call, ast.ListComp))])

    def test_imports(self):
        uses = {}
        for path, tree in trees().items():
            uses[module_name(path)] = []
            for node in ast.walk(tree):
                self.assertNotIsInstance(node, ast.Import, path)
                if isinstance(node, ast.ImportFrom):
                    self.assertIn(node, tree.body)
                    source = ROOT / (node.module.replace(".", "/") + ".py")
                    self.assertTrue(node.level == 0 and source.exists(), (path, node.module))
                    uses[module_name(path)].append(node.module)
                    defined = [part for part in ast.parse(source.read_text()).body if not isinstance(part, ast.ImportFrom)]
                    for name in node.names:
                        self.assertIn(name.name, module_names(ast.Module(defined, [])))
                        self.assertIsNone(name.asname)
        while uses:
            ends = [name for name, others in uses.items() if not set(others) & set(uses)]
            self.assertTrue(ends, uses)
            uses = {name: others for name, others in uses.items() if name not in ends}

    def test_each_import_is_used(self):
        for path, tree in trees().items():
            read = {node.id for node in ast.walk(tree) if isinstance(node, ast.Name)}
            for node in tree.body:
                if isinstance(node, ast.ImportFrom):
                    self.assertLessEqual({name.name for name in node.names}, read, path)


class CodeTest(unittest.TestCase):
    def test_functions(self):
        for path, tree in trees().items():
            for node in functions(tree):
                self.assertLessEqual(node.end_lineno - node.lineno + 1, 40, (path, node.name))
                self.assertFalse([one for one in node.decorator_list if ast.unparse(one) not in ("property", "staticmethod")])
                if node.name.startswith("__"):
                    self.assertIn(node.name, DOUBLE)

    def test_statements_and_expressions(self):
        for path, tree in trees().items():
            for node in ast.walk(tree):
                spot = (path, getattr(node, "lineno", None))
                if isinstance(node, ast.stmt):
                    self.assertIsInstance(node, STATEMENTS, spot)
                # Classes of the package have __eq__: there no generator expressions stand.
                self.assertNotIsInstance(node, (ast.GeneratorExp, ast.Await, ast.Div), spot)
                if isinstance(node, ast.Constant):
                    self.assertNotIsInstance(node.value, (float, complex, bytes), spot)
                if isinstance(node, ast.ExceptHandler):
                    self.assertIsNotNone(node.type, spot)
                if isinstance(node, ast.Raise) and node.exc is not None:
                    self.assertIsInstance(node.exc, ast.Call, spot)
                if isinstance(node, ast.Compare) and any(isinstance(sign, (ast.Is, ast.IsNot)) for sign in node.ops):
                    self.assertTrue(all(isinstance(side, ast.Constant) for side in node.comparators), spot)
                if isinstance(node, ast.BinOp) and isinstance(node.op, ast.Pow):
                    self.assertTrue(isinstance(node.right, ast.Constant) and 0 <= node.right.value <= 64, spot)

    def test_strings(self):
        for path, tree in trees().items():
            for node in ast.walk(tree):
                if isinstance(node, ast.Constant) and isinstance(node.value, str):
                    self.assertNotIn(chr(37), node.value, (path, node.lineno))
                if isinstance(node, ast.JoinedStr):
                    self.assertFalse(set(ast.unparse(node)) & set(chr(37) + "\\#"), (path, node.lineno))

    def test_names(self):
        for path, tree in trees().items():
            outer = {node.name for node in tree.body if isinstance(node, ast.ClassDef)}
            outer |= {name.name for node in tree.body if isinstance(node, ast.ImportFrom) for name in node.names}
            for name in module_names(tree):
                self.check_name(name, path)
            for node in functions(tree):
                for name in names_in(node):
                    self.check_name(name, (path, node.name))
                    self.assertNotIn(name, outer, (path, node.name))
                if not node.name.startswith("__"):
                    self.check_name(node.name, path)

    def check_name(self, name, spot):
        self.assertRegex(name, "^_?[A-Za-z][A-Za-z0-9_]*$|^_$", spot)
        self.assertNotIn(name, dir(builtins), spot)
        self.assertNotIn(name, BANNED, spot)
        self.assertIsNone(BANNED_STARTS.match(name), (name, spot))

    def test_builtins_and_methods(self):
        own = {node.name for tree in trees().values() for node in functions(tree)}
        for path, tree in trees().items():
            for node in ast.walk(tree):
                if isinstance(node, ast.Name) and isinstance(node.ctx, ast.Load) and hasattr(builtins, node.id):
                    self.assertIn(node.id, BUILTINS, (path, node.lineno))
                if isinstance(node, ast.Call) and isinstance(node.func, ast.Attribute):
                    self.assertIn(node.func.attr, METHODS | own, (path, node.lineno))

    def test_no_name_is_a_method_and_an_attribute(self):
        methods, attributes = set(), set()
        for tree in trees().values():
            for node in ast.walk(tree):
                if isinstance(node, ast.ClassDef):
                    methods |= {part.name for part in node.body if isinstance(part, ast.FunctionDef)}
                if isinstance(node, ast.Attribute) and isinstance(node.ctx, ast.Store):
                    attributes.add(node.attr)
        self.assertEqual(methods & attributes, set())

    def test_loops_do_not_change_what_they_go_over(self):
        for path, tree in trees().items():
            for node in ast.walk(tree):
                if isinstance(node, ast.For):
                    told = {ast.unparse(part) for part in ast.walk(node.iter) if isinstance(part, (ast.Name, ast.Attribute))}
                    for part in ast.walk(ast.Module(node.body, [])):
                        if isinstance(part, (ast.Name, ast.Attribute)) and isinstance(part.ctx, ast.Store):
                            self.assertNotIn(ast.unparse(part), told, (path, node.lineno))
                        if isinstance(part, ast.Subscript) and isinstance(part.ctx, (ast.Store, ast.Del)):
                            self.assertNotIn(ast.unparse(part.value), told, (path, node.lineno))

    def test_sets(self):
        for path, tree in trees().items():
            let = []
            for node in ast.walk(tree):
                if isinstance(node, ast.Call) and ast.unparse(node.func) in ("len", "sorted"):
                    let += list(ast.walk(node.args[0]))
                if isinstance(node, ast.Compare):
                    let += [part for side in node.comparators for part in ast.walk(side)]
            for node in ast.walk(tree):
                called = isinstance(node, ast.Call) and ast.unparse(node.func) in ("set", "frozenset")
                if called or isinstance(node, (ast.Set, ast.SetComp)):
                    self.assertIn(node, let, (path, node.lineno))

    def test_short_double_underscore_methods(self):
        for path, tree in trees().items():
            for node in functions(tree):
                if node.name in ("__eq__", "__len__", "__contains__"):
                    self.assertEqual([type(part) for part in node.body], [ast.Return], (path, node.name))
                if node.name == "__str__":
                    for part in ast.walk(node):
                        self.assertNotIsInstance(part, (ast.Assign, ast.AugAssign))


if __name__ == "__main__":
    unittest.main()
