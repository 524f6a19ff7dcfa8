"""The files of the package keep to the subset of the language that the project uses."""

import ast
import builtins
import pathlib
import re
import unittest

FOLDER = pathlib.Path(__file__).resolve().parent.parent / "alleyes"
BUILTINS = ("len range enumerate zip min max sum abs sorted reversed int str bool list tuple dict set isinstance ord repr "
            "any all divmod pow iter next type super property staticmethod classmethod ValueError TypeError "
            "KeyError").split()
METHODS = ("append clear copy count endswith extend find get index insert isalnum isalpha isdigit islower isspace isupper "
           "items join keys ljust lower lstrip partition pop remove replace reverse rfind rjust rpartition rsplit rstrip "
           "setdefault split splitlines startswith strip update upper values zfill bit_length removeprefix removesuffix "
           "isascii").split()
SPECIAL = ("__init__ __eq__ __repr__ __str__ __len__ __iter__ __contains__ __bool__ __neg__ __abs__ __add__ __sub__ "
           "__mul__ __call__").split()
MATH = ("gcd", "lcm", "isqrt", "comb", "perm", "factorial")
NODES = (ast.Module, ast.FunctionDef, ast.ClassDef, ast.Return, ast.Assign, ast.For, ast.While, ast.If, ast.Raise,
         ast.ImportFrom, ast.Expr, ast.Try, ast.ExceptHandler, ast.Pass, ast.Break, ast.Continue, ast.BoolOp, ast.NamedExpr, ast.BinOp, ast.UnaryOp,
         ast.IfExp, ast.Dict, ast.ListComp, ast.DictComp, ast.Compare, ast.Call, ast.JoinedStr, ast.FormattedValue,
         ast.Constant, ast.Attribute, ast.Subscript, ast.Starred, ast.Name, ast.List, ast.Tuple, ast.Slice, ast.Load,
         ast.Store, ast.And, ast.Or, ast.Add, ast.Sub, ast.Mult, ast.FloorDiv, ast.BitAnd, ast.Mod, ast.Pow, ast.Not, ast.USub, ast.Eq,
         ast.NotEq, ast.Lt, ast.LtE, ast.Gt, ast.GtE, ast.Is, ast.IsNot, ast.In, ast.NotIn, ast.comprehension,
         ast.arguments, ast.arg, ast.keyword, ast.alias)
BARRED = ("register mro elements open input law version_info with_traceback add_note attrgetter breakpoint builtins compile "
          "copyright delattr dir eval exec exit gc globals help id importlib license locals methodcaller os quit vars "
          "sys").split()
BARRED_TEXT = re.compile(r"\b(typing|enum|Enum|Flag|Generic|Protocol|ABC|namedtuple|NamedTuple|TypedDict|abstractmethod)\b"
                         r"|dataclass|overload|contextmanager|_wall|_WallAttr")


def files():
    return sorted(FOLDER.glob("*.py"))


def trees():
    return [(path.name, ast.parse(path.read_text())) for path in files()]


def bound_names(tree):
    """All names that functions bind: parameters, targets, functions; and those of the module."""
    for node in ast.walk(tree):
        if isinstance(node, ast.Name) and isinstance(node.ctx, ast.Store):
            yield node.id
        elif isinstance(node, ast.arg):
            yield node.arg


class LanguageTest(unittest.TestCase):
    def test_folder(self):
        others = [path.name for path in FOLDER.iterdir() if path.suffix != ".py" and path.name != "__pycache__"]
        self.assertEqual(others, [])
        self.assertLess(len(files()), 100)
        for path in files():
            self.assertRegex(path.stem, r"^([a-z_]+|__init__)$")
            self.assertNotIn(path.stem, dir(builtins))

    def test_lines(self):
        for path in files():
            text = path.read_text()
            lines = text.split("\n")
            self.assertLess(len(lines), 400, path.name)
            self.assertTrue(all(character == "\n" or " " <= character <= "~" for character in text), path.name)
            self.assertLessEqual(max(len(line) for line in lines), 120, path.name)
            self.assertTrue(text.endswith("\n") and not text.endswith("\n\n"), path.name)
            self.assertIsNone(BARRED_TEXT.search(text), path.name)

    def test_nodes(self):
        for name, tree in trees():
            for node in ast.walk(tree):
                self.assertIsInstance(node, NODES, (name, getattr(node, "lineno", 0)))
                if isinstance(node, ast.Constant):
                    self.assertNotIsInstance(node.value, (float, complex, bytes))
                    if isinstance(node.value, str):
                        self.assertNotIn("%", node.value)

    def test_functions(self):
        for name, tree in trees():
            for node in ast.walk(tree):
                if not isinstance(node, ast.FunctionDef):
                    continue
                self.assertLessEqual(node.end_lineno - node.lineno + 1, 40, (name, node.name))
                self.assertLessEqual({getattr(word, "id", "") for word in node.decorator_list},
                                     {"property", "staticmethod"}, (name, node.name))
                self.assertFalse([inner for inner in ast.walk(node) if isinstance(inner, ast.FunctionDef) and inner is not node])
                if node.name.startswith("__"):
                    self.assertIn(node.name, SPECIAL)
                else:
                    self.assertTrue(node.name in ("iter",) or node.name not in dir(builtins), node.name)

    def test_modules(self):
        for name, tree in trees():
            seen = {}
            for node in tree.body:
                if isinstance(node, ast.Expr):
                    self.assertIsInstance(node.value, ast.Constant)
                    continue
                self.assertIsInstance(node, (ast.ImportFrom, ast.Assign, ast.FunctionDef, ast.ClassDef))
                if isinstance(node, ast.ImportFrom):
                    names = [alias.name for alias in node.names]
                elif isinstance(node, ast.Assign):
                    names = [node.targets[0].id]
                else:
                    names = [node.name]
                for word in names:
                    self.assertNotIn(word, seen, name)
                    seen[word] = True

    def test_imports(self):
        defined = {name[:-3]: {getattr(node, "name", None) or node.targets[0].id for node in tree.body
                               if isinstance(node, (ast.Assign, ast.FunctionDef, ast.ClassDef))} for name, tree in trees()}
        needs = {}
        for name, tree in trees():
            needs[name[:-3]] = []
            used = {node.id for node in ast.walk(tree) if isinstance(node, ast.Name)}
            for node in [node for node in ast.walk(tree) if isinstance(node, ast.ImportFrom)]:
                self.assertEqual(node.level, 0)
                self.assertIn(node, tree.body)
                for alias in node.names:
                    self.assertIsNone(alias.asname)
                    self.assertIn(alias.name, used, name)
                    if node.module == "math":
                        self.assertIn(alias.name, MATH)
                        continue
                    package, _, module = node.module.partition(".")
                    self.assertEqual(package, "alleyes")
                    self.assertIn(alias.name, defined[module], name)
                    needs[name[:-3]].append(module)
        while needs:
            ready = [name for name in needs if not [need for need in needs[name] if need in needs]]
            self.assertTrue(ready, f"these import from one another: {sorted(needs)}")
            needs = {name: needs[name] for name in needs if name not in ready}

    def test_names(self):
        for name, tree in trees():
            taken = {alias.name for node in tree.body if isinstance(node, ast.ImportFrom) for alias in node.names}
            taken.update(node.name for node in tree.body if isinstance(node, ast.ClassDef))
            for word in bound_names(tree):
                self.assertNotIn(word, taken, name)
                self.assertNotIn(word, dir(builtins), name)
                self.assertNotIn(word, BARRED, name)
                self.assertRegex(word, r"^(_|_?[A-Za-z][A-Za-z0-9_]*)$")
            for node in ast.walk(tree):
                if isinstance(node, ast.Name) and isinstance(node.ctx, ast.Load) and node.id in dir(builtins):
                    self.assertIn(node.id, BUILTINS, name)
                if isinstance(node, ast.Name) and node.id == "_":
                    self.assertIsInstance(node.ctx, ast.Store, name)

    def test_locals_are_no_functions_of_the_file(self):
        for name, tree in trees():
            functions = {node.name for node in tree.body if isinstance(node, ast.FunctionDef)}
            self.assertEqual(functions & set(bound_names(tree)), set(), name)

    def test_calls(self):
        own = {node.name for _, tree in trees() for node in ast.walk(tree) if isinstance(node, ast.FunctionDef)}
        for name, tree in trees():
            for node in ast.walk(tree):
                if isinstance(node, ast.Call):
                    if isinstance(node.func, ast.Attribute):
                        self.assertIn(node.func.attr, own | set(METHODS), name)
                    else:
                        self.assertIsInstance(node.func, ast.Name, name)
                    for part in node.args:
                        if isinstance(part, ast.Starred):
                            self.assertIsInstance(part.value, ast.Name, (name, node.lineno))

    def test_tries(self):
        """A try holds one line, and catches errors of the package alone."""
        from alleyes import errors
        for name, tree in trees():
            for node in [node for node in ast.walk(tree) if isinstance(node, ast.Try)]:
                self.assertEqual([len(node.body), len(node.handlers), node.orelse, node.finalbody], [1, 1, [], []], name)
                self.assertTrue(issubclass(getattr(errors, node.handlers[0].type.id), errors.EyesError), name)

    def test_is(self):
        for name, tree in trees():
            for node in ast.walk(tree):
                if isinstance(node, ast.Compare) and isinstance(node.ops[0], (ast.Is, ast.IsNot)):
                    kinds = isinstance(node.left, ast.Call) and getattr(node.left.func, "id", "") == "type"
                    right = node.comparators[0]
                    self.assertTrue(kinds or (isinstance(right, ast.Constant) and right.value in (None, True, False)), name)

    def test_methods_and_attributes(self):
        """No name is a method of one class and an attribute, or a property, of another one."""
        methods, attributes = set(), set()
        for _, tree in trees():
            for kind in [node for node in tree.body if isinstance(node, ast.ClassDef)]:
                for node in kind.body:
                    if isinstance(node, ast.FunctionDef):
                        is_property = "property" in [getattr(word, "id", "") for word in node.decorator_list]
                        (attributes if is_property else methods).add(node.name)
            for node in ast.walk(tree):
                if isinstance(node, ast.Attribute) and isinstance(node.ctx, ast.Store):
                    attributes.add(node.attr)
        # The interface wants both: the method of a Book, the attribute of lights.
        self.assertLessEqual(methods & attributes, {"pairs"})
        for word in attributes:
            self.assertFalse(any(hasattr(kind, word) for kind in (str, int, list, dict, set, bytes)), word)
        for word in methods - set(SPECIAL):
            self.assertFalse(any(hasattr(kind, word) for kind in (str, int, list, dict, set, bytes)), word)

    def test_properties_are_not_assigned(self):
        """No attribute is stored anywhere under the name of a property, as no property has a setter."""
        properties = set()
        for name, tree in trees():
            for node in ast.walk(tree):
                if isinstance(node, ast.FunctionDef) and "property" in [getattr(word, "id", "") for word in node.decorator_list]:
                    properties.add(node.name)
        self.assertTrue(properties)
        for name, tree in trees():
            for node in ast.walk(tree):
                if isinstance(node, ast.Attribute) and isinstance(node.ctx, ast.Store):
                    self.assertNotIn(node.attr, properties, (name, node.lineno))


if __name__ == "__main__":
    unittest.main()
