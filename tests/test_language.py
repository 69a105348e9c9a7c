"""The rules of LANGUAGE.md that can be seen in the files of the package, and what point 2 rules out."""

import ast
import builtins
import pathlib
import re
import unittest

FOLDER = pathlib.Path(__file__).resolve().parent.parent / "tryback"
LIBRARY = {
    "heapq": {"heappush", "heappop", "heapify", "heapreplace", "heappushpop"},
    "math": {"gcd", "lcm", "isqrt", "comb", "perm", "factorial"},
    "itertools": {"product", "combinations", "permutations", "chain", "accumulate", "pairwise", "islice", "zip_longest"},
    "collections": {"defaultdict"},
}
BUILTINS = set("""len range enumerate zip min max sum abs sorted reversed int str bool bytes list tuple dict set frozenset
    isinstance ord repr any all divmod pow getattr hasattr setattr iter next map super property staticmethod classmethod
    Exception ValueError TypeError KeyError IndexError LookupError ZeroDivisionError ArithmeticError OverflowError
    RuntimeError NotImplementedError AttributeError StopIteration NotImplemented object float""".split())
METHODS = set("""append clear copy count endswith extend find get index insert isalnum isalpha isdigit islower isspace
    isupper items join keys ljust lower lstrip partition pop remove replace reverse rfind rjust rpartition rsplit rstrip
    setdefault split splitlines startswith strip update upper values zfill bit_length title capitalize swapcase casefold
    center expandtabs removeprefix removesuffix rindex isascii isdecimal isnumeric istitle isidentifier isprintable
    translate maketrans add discard sort format encode decode hex from_bytes from_iterable""".split())
SPECIAL = set("""__init__ __eq__ __repr__ __str__ __len__ __enter__ __exit__ __call__ __iter__ __lt__ __le__ __gt__ __ge__
    __ne__ __neg__ __pos__ __invert__ __abs__ __bool__ __contains__ __getitem__ __setitem__""".split())
BARRED = set("""typing typing_extensions enum Enum IntEnum StrEnum Flag IntFlag Generic Protocol ABC ABCMeta namedtuple
    NamedTuple TypedDict TYPE_CHECKING abstractmethod type dataclass overload contextmanager""".split())
NOWHERE = {"register", "mro", "elements", "open", "input", "law", "version_info", "with_traceback", "add_note"}


# The functions of the interface by their files, and its classes with their methods and properties.
FUNCTIONS = {
    "texts": "written read_code", "puzzles": "read_puzzle", "runs": "run", "traces": "maker another makers",
    "tables": "maps", "keeping": "keeps keeps_cell broken", "views": "spoiled", "alike": "alike",
    "ways": "spots_of faulting", "heights": "heights", "mending": "allowed mending least_sets mended needless",
}
CLASSES = {
    "codes": {"Function": "", "Code": "named"},
    "puzzles": {"Puzzle": "paths before with_bits with_child __contains__ __getitem__ __eq__"},
    "runs": {"Run": "", "Answer": "spoiled", "Visit": "restored"},
    "desks": {"Desk": "due say undo redo report so_far answers_given left_open"},
    "tables": {"Maps": "outs puzzle_for"}, "keeping": {"Break": ""}, "views": {"Spoiled": ""}, "alike": {"Unlike": ""},
    "heights": {"Heights": ""}, "mending": {"Mending": ""},
    "logs": {"Log": "change now undone restores least orders"},
}


def files():
    return [(path.name, path.read_bytes()) for path in sorted(FOLDER.glob("*.py"))]


def trees():
    return [(name, ast.parse(data.decode("ascii"))) for name, data in files()]


def plain(node):
    """Whether a value at module level is plain, as L3 and L15 ask."""
    if isinstance(node, (ast.Constant, ast.Name)):
        return True
    if isinstance(node, ast.UnaryOp):
        return plain(node.operand)
    if isinstance(node, ast.BinOp):
        return plain(node.left) and plain(node.right)
    inner = list(node.elts) if isinstance(node, (ast.List, ast.Tuple)) else []
    inner = [*node.keys, *node.values] if isinstance(node, ast.Dict) else inner
    is_table = isinstance(node, (ast.List, ast.Tuple, ast.Dict))
    return is_table and all(plain(one) and not isinstance(one, (ast.List, ast.Dict)) for one in inner)


class Files(unittest.TestCase):
    def test_the_folder_contains_python_files_only(self):
        for path in FOLDER.iterdir():
            if path.name != "__pycache__":
                self.assertRegex(path.name, r"^[a-z_][a-z0-9_]*\.py$")
        self.assertTrue((FOLDER / "__init__.py").is_file())

    def test_characters_and_sizes(self):
        for name, data in files():
            lines = data.decode("ascii").split("\n")
            self.assertLess(len(lines), 401, name)
            for number, line in enumerate(lines, 1):
                self.assertLessEqual(len(line), 120, (name, number))
                self.assertTrue(all(" " <= sign <= "~" for sign in line), (name, number))

    def test_functions_are_short(self):
        for name, tree in trees():
            for node in ast.walk(tree):
                if isinstance(node, ast.FunctionDef):
                    self.assertLessEqual(node.end_lineno - node.lineno + 1, 40, (name, node.name))


class Interface(unittest.TestCase):
    def defined(self, file, kind):
        tree = ast.parse((FOLDER / f"{file}.py").read_text())
        return {node.name: node for node in tree.body if isinstance(node, kind)}

    def test_functions_are_defined_in_their_files(self):
        for file, names in FUNCTIONS.items():
            self.assertLessEqual(set(names.split()), set(self.defined(file, ast.FunctionDef)), file)

    def test_methods_are_defined_in_their_classes(self):
        for file, classes in CLASSES.items():
            found = self.defined(file, ast.ClassDef)
            for name, methods in classes.items():
                own = {one.name for one in found[name].body if isinstance(one, ast.FunctionDef)}
                self.assertLessEqual({"__init__", *methods.split()}, own, name)


class Language(unittest.TestCase):
    def nodes(self, *kinds):
        for name, tree in trees():
            for node in ast.walk(tree):
                if isinstance(node, kinds):
                    yield (name, getattr(node, "lineno", 0)), node

    def test_imports(self):
        for place, node in self.nodes(ast.Import, ast.ImportFrom):
            self.assertIsInstance(node, ast.ImportFrom, place)
            self.assertEqual(node.level, 0, place)
            names = {one.name for one in node.names}
            if node.module.startswith("tryback."):
                defined = ast.parse((FOLDER / f"{node.module[8:]}.py").read_text())
                own = {one.name for one in defined.body if isinstance(one, (ast.FunctionDef, ast.ClassDef))}
                own |= {one.targets[0].id for one in defined.body if isinstance(one, ast.Assign)}
                self.assertLessEqual(names, own, place)
            elif node.module != "__future__":
                self.assertLessEqual(names, LIBRARY.get(node.module, set()), place)

    def test_module_level(self):
        for name, tree in trees():
            bound = []
            for at, node in enumerate(tree.body):
                if isinstance(node, (ast.FunctionDef, ast.ClassDef)):
                    bound.append(node.name)
                elif isinstance(node, ast.ImportFrom):
                    bound.extend(one.name for one in node.names)
                elif isinstance(node, ast.Assign):
                    self.assertEqual(len(node.targets), 1, (name, node.lineno))
                    self.assertTrue(plain(node.value), (name, node.lineno))
                    bound.append(node.targets[0].id)
                else:
                    self.assertTrue(at == 0 and isinstance(node.value, ast.Constant), (name, node.lineno))
            self.assertEqual(len(bound), len(set(bound)), name)
            self.assertFalse(set(bound) & set(vars(builtins)), name)

    def test_statements(self):
        barred = (ast.Global, ast.AsyncFunctionDef, ast.Await, ast.AsyncFor, ast.AsyncWith, ast.Div)
        self.assertEqual([place for place, _ in self.nodes(*barred)], [])
        for place, node in self.nodes(ast.ExceptHandler):
            self.assertIsNotNone(node.type, place)
        for place, node in self.nodes(ast.FunctionDef):
            self.assertTrue(all(isinstance(one, (ast.Name, ast.Attribute)) for one in node.decorator_list), place)
            if node.name.startswith("__") and node.name not in SPECIAL:
                self.assertRegex(node.name, "^__[ir]?(add|sub|mul|floordiv|mod|pow|and|or|xor|lshift|rshift)__$")
        for place, node in self.nodes(ast.ClassDef):
            self.assertEqual(node.decorator_list, [], place)

    def test_builtins(self):
        for place, node in self.nodes(ast.Name):
            if isinstance(node.ctx, ast.Load) and hasattr(builtins, node.id):
                self.assertIn(node.id, BUILTINS, place)
            if not isinstance(node.ctx, ast.Load):
                self.assertFalse(hasattr(builtins, node.id), place)
        for place, node in self.nodes(ast.arg):
            self.assertFalse(hasattr(builtins, node.arg), place)

    def test_methods(self):
        own = {node.name for _, node in self.nodes(ast.FunctionDef)}
        for place, node in self.nodes(ast.Call):
            if isinstance(node.func, ast.Attribute):
                self.assertIn(node.func.attr, METHODS | own, place)

    def test_names_and_words(self):
        for place, node in self.nodes(ast.Name, ast.Attribute, ast.arg, ast.keyword, ast.FunctionDef, ast.ClassDef):
            names = [getattr(node, kind, None) for kind in ("id", "attr", "arg", "name")]
            self.assertFalse(set(names) & (NOWHERE | BARRED), place)
        for place, node in self.nodes(ast.Constant):
            if isinstance(node.value, str):
                self.assertNotIn("%", node.value, place)
                self.assertFalse(re.match("^__.*__$", node.value), place)
            self.assertNotIsInstance(node.value, (float, complex), place)

    def test_is(self):
        for place, node in self.nodes(ast.Compare):
            for sign, right in zip(node.ops, node.comparators):
                if isinstance(sign, (ast.Is, ast.IsNot)):
                    self.assertTrue(isinstance(right, ast.Constant) and right.value in (None, True, False), place)

    def test_classes_with_items_are_not_iterated_over(self):
        for place, node in self.nodes(ast.ClassDef):
            methods = {one.name: one for one in node.body if isinstance(one, ast.FunctionDef)}
            if "__getitem__" in methods:
                self.assertEqual([isinstance(one, ast.Raise) for one in methods["__iter__"].body], [True], place)
        for place, node in self.nodes(ast.Call):
            # Classes of the package have a __getitem__.
            if isinstance(node.func, ast.Name) and node.func.id == "reversed":
                inner = node.args[0]
                self.assertTrue(isinstance(inner, ast.Call) and inner.func.id in ("list", "tuple", "sorted", "range"), place)

    def test_names_of_attributes_and_methods(self):
        barred = set("items keys values pop update append clear extend insert remove reverse setdefault sort args encode"
                     " decode hex fromhex format".split())
        for place, node in self.nodes(ast.ClassDef):
            inner = [one for one in ast.walk(node) if isinstance(one, ast.Attribute) and isinstance(one.ctx, ast.Store)]
            attributes = {one.attr for one in inner if isinstance(one.value, ast.Name) and one.value.id == "self"}
            methods = [one.name for one in node.body if isinstance(one, ast.FunctionDef)]
            self.assertEqual(len(methods), len(set(methods)), place)
            self.assertFalse(attributes & set(methods), place)
            self.assertFalse(attributes & barred, place)
            self.assertFalse(set(methods) & {"keys", *vars(builtins)}, place)

    def test_names_of_imports_and_classes_are_not_used_again(self):
        for name, tree in trees():
            taken = {one.name for one in tree.body if isinstance(one, ast.ClassDef)}
            taken |= {alias.name for one in tree.body if isinstance(one, ast.ImportFrom) for alias in one.names}
            for node in ast.walk(tree):
                if isinstance(node, ast.Name) and isinstance(node.ctx, ast.Store):
                    self.assertNotIn(node.id, taken, (name, node.lineno))
                if isinstance(node, ast.arg):
                    self.assertNotIn(node.arg, taken, (name, node.lineno))

    def test_no_two_files_import_from_each_other(self):
        imports = {name[:-3]: {node.module[8:] for node in tree.body
                               if isinstance(node, ast.ImportFrom) and node.module.startswith("tryback.")}
                   for name, tree in trees()}
        while imports:
            free = [name for name in imports if not imports[name] & set(imports)]
            self.assertNotEqual(free, [], imports)
            imports = {name: imports[name] for name in imports if name not in free}

    def test_any_and_all_take_lists(self):
        # Classes of the package have an __eq__.
        for place, node in self.nodes(ast.Call):
            if isinstance(node.func, ast.Name) and node.func.id in ("any", "all", "min", "max", "sum", "sorted"):
                self.assertFalse(any(isinstance(one, ast.GeneratorExp) for one in node.args), place)


if __name__ == "__main__":
    unittest.main()
