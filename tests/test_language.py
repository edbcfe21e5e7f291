"""What can be checked by reading the package: some of the rules of the Python subset that it is written in."""

import ast
import builtins
import pathlib
import unittest

PACKAGE = pathlib.Path(__file__).resolve().parent.parent / "neverfactored"
FILES = sorted(PACKAGE.glob("**/*.py"))
LIBRARY = {"math": {"gcd", "lcm", "isqrt", "comb", "perm", "factorial"}}
BUILTINS = set("""len range enumerate zip min max sum abs sorted reversed int str bool list tuple dict set isinstance
    ord repr any all divmod iter super ValueError TypeError KeyError NotImplemented property""".split())
METHODS = set("""append clear copy count endswith extend find get index insert isalnum isalpha isdigit islower isspace
    isupper items join keys ljust lower lstrip partition pop remove replace reverse rfind rjust rpartition rsplit rstrip
    setdefault split splitlines startswith strip update upper values zfill bit_length __init__""".split())
BARRED = set("""register mro elements open input law version_info with_traceback add_note attrgetter breakpoint builtins
    compile copyright credits delattr dir eval exec exit gc getattr globals hasattr help id importlib license locals
    methodcaller os quit setattr super type vars sys next iter map""".split())


def trees():
    """Return the couples of a file's name and its syntax tree."""
    return [(path.stem, ast.parse(path.read_text())) for path in FILES]


def own_names(tree):
    """Return the names that a file binds at module level, imports left out."""
    names = set()
    for node in tree.body:
        if isinstance(node, (ast.FunctionDef, ast.ClassDef)):
            names.add(node.name)
        if isinstance(node, ast.Assign):
            names.update(target.id for target in node.targets)
    return names


def imports_of(tree):
    """Return the triples of module, name and local name that a file imports."""
    return [(node.module, alias.name, alias.asname or alias.name)
            for node in ast.walk(tree) if isinstance(node, ast.ImportFrom) for alias in node.names]


def local_names(tree):
    """Return the names of the parameters, local variables and caught errors of all functions of a file."""
    names = set()
    for function in ast.walk(tree):
        if isinstance(function, (ast.FunctionDef, ast.Lambda)):
            for node in ast.walk(function):
                if isinstance(node, ast.arg):
                    names.add(node.arg)
                if isinstance(node, ast.Name) and isinstance(node.ctx, ast.Store):
                    names.add(node.id)
                if isinstance(node, ast.ExceptHandler) and node.name is not None:
                    names.add(node.name)
    return names


def own_errors():
    """Return the names of the errors of the package."""
    return own_names(dict(trees())["errors"])


def stars_of(tree):
    """Return what stands behind the stars of calls."""
    return [argument.value for node in ast.walk(tree) if isinstance(node, ast.Call)
            for argument in node.args if isinstance(argument, ast.Starred)]


class LanguageTest(unittest.TestCase):

    def test_files(self):
        self.assertEqual([path for path in PACKAGE.iterdir()
                          if path.suffix != ".py" and path.name != "__pycache__"], [])
        for path in FILES:
            text = path.read_text()
            self.assertLessEqual(len(text.splitlines()), 399, path)
            for line in text.splitlines():
                self.assertLessEqual(len(line), 120, path)
                self.assertTrue(all(" " <= character <= "~" for character in line), (path, line))

    def test_functions_are_short(self):
        for name, tree in trees():
            for node in ast.walk(tree):
                if isinstance(node, ast.FunctionDef):
                    self.assertLessEqual(node.end_lineno - node.lineno + 1, 40, (name, node.name))

    def test_imports(self):
        owned = {f"neverfactored.{name}": own_names(tree) for name, tree in trees()}
        for name, tree in trees():
            used = {node.id for node in ast.walk(tree) if isinstance(node, ast.Name)}
            for module, thing, local in imports_of(tree):
                self.assertIn(thing, LIBRARY.get(module, owned.get(module, ())), (name, module))
                self.assertEqual(thing, local)
                self.assertIn(thing, used, (name, "imported for nothing"))
            self.assertFalse([node for node in ast.walk(tree) if isinstance(node, ast.Import)], name)

    def test_no_two_files_import_from_each_other(self):
        needs = {name: {module.split(".")[1] for module, _, _ in imports_of(tree) if module.startswith("never")}
                 for name, tree in trees()}
        while needs:
            free = [name for name in needs if not needs[name] & set(needs)]
            self.assertTrue(free, needs)
            needs = {name: needs[name] for name in needs if name not in free}

    def test_module_level(self):
        for name, tree in trees():
            for node in tree.body:
                if isinstance(node, ast.Expr):
                    self.assertIsInstance(node.value, ast.Constant, name)
                else:
                    self.assertIsInstance(node, (ast.ImportFrom, ast.FunctionDef, ast.ClassDef, ast.Assign), name)

    def test_names(self):
        for name, tree in trees():
            taken = own_names(tree) | {thing for _, thing, _ in imports_of(tree)}
            self.assertEqual(local_names(tree) & taken, set(), name)
            for bound in local_names(tree) | own_names(tree):
                self.assertFalse(hasattr(builtins, bound) or bound in BARRED, (name, bound))

    def test_builtins(self):
        for name, tree in trees():
            known = own_names(tree) | {thing for _, thing, _ in imports_of(tree)} | local_names(tree)
            for node in ast.walk(tree):
                if isinstance(node, ast.Name) and node.id not in known:
                    self.assertIn(node.id, BUILTINS, name)

    def test_methods(self):
        own = {node.name for _, tree in trees() for kind in ast.walk(tree) if isinstance(kind, ast.ClassDef)
               for node in kind.body if isinstance(node, ast.FunctionDef)}
        for name, tree in trees():
            for node in ast.walk(tree):
                if isinstance(node, ast.Call) and isinstance(node.func, ast.Attribute):
                    self.assertIn(node.func.attr, METHODS | own, name)

    def test_expressions(self):
        barred = (ast.GeneratorExp, ast.Div, ast.MatMult, ast.Global, ast.AsyncFunctionDef, ast.Await, ast.With,
                  ast.AnnAssign, ast.NamedExpr, ast.Match)
        for name, tree in trees():
            for node in ast.walk(tree):
                self.assertNotIsInstance(node, barred, (name, getattr(node, "lineno", None)))
                if isinstance(node, ast.Compare) and any(isinstance(op, (ast.Is, ast.IsNot)) for op in node.ops):
                    self.assertIsInstance(node.comparators[0], ast.Constant, name)
                if isinstance(node, ast.Constant):
                    self.assertNotIsInstance(node.value, (float, complex), name)
                    self.assertFalse(isinstance(node.value, str) and "%" in node.value, name)

    def test_powers_have_literal_exponents(self):
        for name, tree in trees():
            for node in ast.walk(tree):
                if isinstance(node, ast.BinOp) and isinstance(node.op, ast.Pow):
                    self.assertIsInstance(node.right, ast.Constant, name)
                    self.assertTrue(0 <= node.right.value <= 64, name)

    def test_only_own_errors_are_caught(self):
        errors = own_errors()
        for name, tree in trees():
            for node in ast.walk(tree):
                if isinstance(node, ast.ExceptHandler):
                    self.assertIn(node.type.id, errors, name)
                if isinstance(node, ast.Raise):
                    self.assertIn(node.exc.func.id, errors, name)
                if isinstance(node, ast.Try):
                    self.assertEqual(node.finalbody, [], name)

    def test_stars_stand_ahead_of_names(self):
        for name, tree in trees():
            for value in stars_of(tree):
                self.assertIsInstance(value, (ast.Name, ast.Attribute), name)

    def test_attributes_are_assigned_through_a_name(self):
        for name, tree in trees():
            for node in ast.walk(tree):
                if isinstance(node, ast.Attribute) and isinstance(node.ctx, ast.Store):
                    self.assertIsInstance(node.value, ast.Name, (name, node.lineno))

    def test_sets_stand_where_they_may(self):
        for name, tree in trees():
            allowed = [argument for node in ast.walk(tree) if isinstance(node, ast.Call)
                       and isinstance(node.func, ast.Name) and node.func.id in ("sorted", "len")
                       for argument in node.args]
            for node in ast.walk(tree):
                is_set = isinstance(node, (ast.Set, ast.SetComp)) or (
                    isinstance(node, ast.Call) and isinstance(node.func, ast.Name) and node.func.id == "set")
                self.assertTrue(not is_set or node in allowed, (name, getattr(node, "lineno", None)))


if __name__ == "__main__":
    unittest.main()
