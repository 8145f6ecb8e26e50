"""The rules of ../shared/LANGUAGE.md that can be looked up in the package's syntax trees."""

import ast
import builtins
import pathlib
import re
import unittest

FOLDER = pathlib.Path(__file__).resolve().parent.parent / "layerink"

BUILTINS = set("""
    len range enumerate zip min max sum abs sorted reversed int str bool bytes list tuple dict set frozenset
    isinstance ord repr any all divmod Exception ValueError TypeError KeyError IndexError LookupError
    ZeroDivisionError ArithmeticError OverflowError RuntimeError NotImplementedError AttributeError
    StopIteration NotImplemented super property staticmethod classmethod
""".split())

METHODS = set("""
    append clear copy count endswith extend find get index insert isalnum isalpha isdigit islower isspace
    isupper items join keys ljust lower lstrip partition pop remove replace reverse rfind rjust rpartition
    rsplit rstrip setdefault split splitlines startswith strip update upper values zfill bit_length
    title capitalize swapcase casefold center expandtabs removeprefix removesuffix rindex isascii isdecimal
    isnumeric istitle isidentifier isprintable translate add discard
""".split())

BARRED_WORDS = re.compile(r"""(?x) \b (?: type | typing | typing_extensions | enum | Enum | IntEnum | StrEnum | Flag
    | IntFlag | Generic | Protocol | ABC | ABCMeta | namedtuple | NamedTuple | TypedDict | TYPE_CHECKING
    | abstractmethod ) \b | dataclass | overload | contextmanager""")

BARRED_NAMES = set("""
    register mro elements open input version_info with_traceback add_note attrgetter breakpoint builtins compile
    copyright credits delattr dir eval exec exit gc getattr globals hasattr help id importlib license locals
    methodcaller os quit setattr sys vars
""".split())

BARRED_NODES = (ast.Global, ast.Import, ast.AsyncFor, ast.AsyncFunctionDef, ast.AsyncWith, ast.Await, ast.Div)

DOUBLE = re.compile(r"__[a-z]+__")
PLAIN = re.compile(r"[A-Za-z][A-Za-z0-9_]*")


def sources():
    return {path.stem: path.read_text(encoding="utf-8") for path in sorted(FOLDER.glob("*.py"))}


def trees():
    return {stem: ast.parse(text) for stem, text in sources().items()}


def each_node(*kinds):
    for stem, tree in trees().items():
        for node in ast.walk(tree):
            if isinstance(node, kinds):
                yield stem, node


def bound_at_top(tree):
    """The names that a module binds at module level, as often as it does."""
    names = []
    for node in tree.body:
        if isinstance(node, ast.ImportFrom):
            names += [alias.asname or alias.name for alias in node.names]
        elif isinstance(node, (ast.FunctionDef, ast.ClassDef)):
            names.append(node.name)
        elif isinstance(node, ast.Assign):
            names += [target.id for target in node.targets]
    return names


def bound_inside(node):
    """The parameters and local variables of a function."""
    names = [part.arg for part in ast.walk(node) if isinstance(part, ast.arg)]
    return names + [part.id for part in ast.walk(node) if isinstance(part, ast.Name) and isinstance(part.ctx, ast.Store)]


class Files(unittest.TestCase):
    def test_names(self):
        for path in FOLDER.iterdir():
            if path.name != "__pycache__":
                self.assertRegex(path.name, r"\A(__init__|[a-z][a-z0-9_]*)\.py\Z")

    def test_signs_and_sizes(self):
        for stem, text in sources().items():
            self.assertRegex(text, r"\A[ -~\n]*\Z", stem)
            lines = text.split("\n")
            self.assertLessEqual(len(lines), 400, stem)
            self.assertLessEqual(max(map(len, lines)), 120, stem)

    def test_barred_words(self):
        for stem, text in sources().items():
            self.assertIsNone(BARRED_WORDS.search(text), stem)

    def test_signs_in_strings(self):
        for stem, node in each_node(ast.Constant):
            if isinstance(node.value, str):
                self.assertNotIn("%", node.value, stem)


class Modules(unittest.TestCase):
    def test_module_level(self):
        for stem, tree in trees().items():
            self.assertIsNotNone(ast.get_docstring(tree), stem)
            for node in tree.body[1:]:
                self.assertIsInstance(node, (ast.ImportFrom, ast.FunctionDef, ast.ClassDef, ast.Assign), stem)
            names = bound_at_top(tree)
            self.assertEqual(len(names), len(set(names)), stem)

    def test_imports(self):
        known = {stem: bound_at_top(tree) for stem, tree in trees().items()}
        for stem, tree in trees().items():
            imported = [node for node in tree.body if isinstance(node, ast.ImportFrom)]
            for node in ast.walk(tree):
                if isinstance(node, ast.ImportFrom):
                    self.assertIn(node, imported)
                    self.assertEqual(node.level, 0)
                    self.assertRegex(node.module, r"\Alayerink\.\w+\Z")
                    for alias in node.names:
                        self.assertIn(alias.name, known[node.module.split(".")[1]])

    def test_no_import_circles(self):
        needs = {stem: set() for stem in sources()}
        for stem, node in each_node(ast.ImportFrom):
            needs[stem].add(node.module.split(".")[1])
        while needs:
            free = {stem for stem, some in needs.items() if not some & needs.keys()}
            self.assertTrue(free, sorted(needs))
            needs = {stem: some for stem, some in needs.items() if stem not in free}

    def test_functions_are_small(self):
        for stem, node in each_node(ast.FunctionDef):
            self.assertLessEqual(node.end_lineno - node.lineno + 1, 40, (stem, node.name))


class Names(unittest.TestCase):
    def test_plain(self):
        for stem, node in each_node(ast.FunctionDef, ast.ClassDef, ast.Name, ast.arg, ast.Attribute):
            name = next(getattr(node, field) for field in ("name", "id", "arg", "attr") if hasattr(node, field))
            self.assertTrue(PLAIN.fullmatch(name) or DOUBLE.fullmatch(name), (stem, name))
            self.assertNotIn(name, BARRED_NAMES, stem)

    def test_builtins(self):
        barred = set(dir(builtins)) - BUILTINS
        for stem, node in each_node(ast.Name):
            self.assertNotIn(node.id, barred, stem)

    def test_no_other_meaning(self):
        for stem, tree in trees().items():
            taken = set(dir(builtins))
            for node in tree.body:
                if isinstance(node, ast.ClassDef):
                    taken.add(node.name)
                elif isinstance(node, ast.ImportFrom):
                    taken |= {alias.asname or alias.name for alias in node.names}
            for node in ast.walk(tree):
                if isinstance(node, ast.FunctionDef):
                    self.assertFalse(taken & set(bound_inside(node)), (stem, node.name))

    def test_methods(self):
        own = {node.name for _, node in each_node(ast.FunctionDef)}
        for stem, node in each_node(ast.Call):
            if isinstance(node.func, ast.Attribute):
                self.assertIn(node.func.attr, METHODS | own, stem)


    def test_methods_are_no_attributes(self):
        methods, attributes = set(), set()
        for _, node in each_node(ast.ClassDef):
            names = [part.name for part in node.body if isinstance(part, ast.FunctionDef)]
            self.assertEqual(len(names), len(set(names)), node.name)
            methods |= set(names)
        for _, node in each_node(ast.Attribute):
            if isinstance(node.ctx, ast.Store):
                attributes.add(node.attr)
        self.assertFalse(methods & attributes)
        for stem, tree in trees().items():
            called = [node.func for node in ast.walk(tree) if isinstance(node, ast.Call)]
            for node in ast.walk(tree):
                if isinstance(node, ast.Attribute) and isinstance(node.ctx, ast.Load) and node not in called:
                    self.assertIn(node.attr, attributes, stem)

    def test_class_bodies(self):
        for stem, node in each_node(ast.ClassDef):
            self.assertEqual(node.decorator_list, [])
            for part in node.body[1:]:
                self.assertIsInstance(part, ast.FunctionDef, (stem, node.name))
        for stem, node in each_node(ast.FunctionDef):
            self.assertEqual(node.decorator_list, [], (stem, node.name))


class Expressions(unittest.TestCase):
    def test_barred(self):
        for stem, node in each_node(*BARRED_NODES):
            self.fail((stem, node.lineno, node))

    def test_no_floats(self):
        for stem, node in each_node(ast.Constant):
            self.assertNotIsInstance(node.value, (float, complex), stem)

    def test_is(self):
        for stem, node in each_node(ast.Compare):
            for sign, right in zip(node.ops, node.comparators):
                if isinstance(sign, (ast.Is, ast.IsNot)):
                    self.assertIsInstance(right, ast.Constant, stem)
                    self.assertIn(right.value, (None, True, False), stem)

    def test_lists_instead_of_generators(self):
        for stem, node in each_node(ast.GeneratorExp, ast.Yield, ast.YieldFrom):
            self.fail((stem, node.lineno))

    def test_no_sorting_in_place(self):
        for stem, node in each_node(ast.Attribute):
            self.assertNotEqual(node.attr, "sort", stem)

    def test_only_own_errors_are_caught(self):
        own = {node.name for stem, node in each_node(ast.ClassDef) if stem == "errors"}
        for stem, node in each_node(ast.ExceptHandler):
            kinds = node.type.elts if isinstance(node.type, ast.Tuple) else [node.type]
            for kind in kinds:
                self.assertIn(kind.id, own, stem)

    def test_raised_on_the_spot(self):
        for stem, node in each_node(ast.Raise):
            if node.exc is not None:
                self.assertIsInstance(node.exc, ast.Call, stem)
                self.assertIsInstance(node.exc.func, ast.Name, stem)


if __name__ == "__main__":
    unittest.main()
