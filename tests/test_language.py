"""Rules of the language subset that can be seen from a file alone."""

import ast
import builtins
import pathlib
import re
import unittest

PACKAGE = pathlib.Path(__file__).resolve().parent.parent / 'lockdoors'
FILES = sorted(PACKAGE.glob('*.py'))

BARRED_WORDS = re.compile(
    r'\b(type|typing|typing_extensions|enum|Enum|IntEnum|StrEnum|Flag|IntFlag|Generic|Protocol|ABC|ABCMeta|namedtuple'
    r'|NamedTuple|TypedDict|TYPE_CHECKING|abstractmethod)\b|dataclass|overload|contextmanager')
BARRED_NAMES = set(
    'register mro elements open input law version_info with_traceback add_note attrgetter breakpoint builtins compile '
    'copyright credits delattr dir eval exec exit gc getattr globals hasattr help id importlib license locals '
    'methodcaller os quit setattr type vars sys print chr'.split())
SPECIAL = set(
    '__init__ __eq__ __repr__ __str__ __len__ __enter__ __exit__ __call__ __iter__ __or__ __and__ __sub__ '
    '__contains__ __bool__'.split())
# The methods of builtin values that the package calls; all of them are allowed.
BUILTIN_METHODS = {'append', 'pop', 'split', 'join'}
BARRED_NODES = (ast.Global, ast.AsyncFunctionDef, ast.AsyncFor, ast.AsyncWith, ast.Await, ast.Div, ast.Import)


def nodes(path):
    return list(ast.walk(ast.parse(path.read_text())))


def names_in(path):
    """All names that a file binds or uses, attributes included."""
    for node in nodes(path):
        for field in ('id', 'attr', 'arg', 'name'):
            name = getattr(node, field, None)
            if isinstance(name, str) and not isinstance(node, ast.alias):
                yield name


class LanguageTest(unittest.TestCase):
    def test_folder(self):
        found = [path for path in PACKAGE.iterdir() if path.name != '__pycache__']
        self.assertEqual(sorted(found), FILES)
        self.assertIn(PACKAGE / '__init__.py', FILES)
        for path in FILES:
            self.assertRegex(path.name, r'^[a-z0-9_]+\.py$')

    def test_characters_and_sizes(self):
        for path in FILES:
            text = path.read_text()
            self.assertRegex(text, r'\A[\n -~]*\Z')
            self.assertLessEqual(len(text.splitlines()), 399)
            self.assertLessEqual(max(len(line) for line in text.splitlines()), 120)
            self.assertIsNone(BARRED_WORDS.search(text), path)

    def test_sizes_of_functions(self):
        for path in FILES:
            for node in nodes(path):
                if isinstance(node, ast.FunctionDef):
                    self.assertLessEqual(node.end_lineno - node.lineno + 1, 40, node.name)

    def test_imports(self):
        for path in FILES:
            for node in nodes(path):
                if isinstance(node, ast.ImportFrom):
                    self.assertTrue(node.module.startswith('lockdoors.'), path)
                    self.assertEqual(node.level, 0)
                    self.assertNotIn('*', [alias.name for alias in node.names])

    def test_names(self):
        for path in FILES:
            for name in names_in(path):
                self.assertNotIn(name, BARRED_NAMES, path)
                self.assertTrue(name in SPECIAL or not name.startswith('_'), (path, name))

    def test_statements_and_values(self):
        for path in FILES:
            for node in nodes(path):
                self.assertNotIsInstance(node, BARRED_NODES, path)
                if isinstance(node, ast.Constant):
                    self.assertNotIsInstance(node.value, float, path)
                    self.assertFalse(isinstance(node.value, str) and '%' in node.value, path)

    def test_no_generator_expressions(self):
        for path in FILES:
            for node in nodes(path):
                self.assertNotIsInstance(node, ast.GeneratorExp, path)

    def test_no_name_is_both_a_method_and_an_attribute(self):
        methods, attributes = set(), set()
        for path in FILES:
            for node in nodes(path):
                if isinstance(node, ast.ClassDef):
                    methods |= {part.name for part in node.body if isinstance(part, ast.FunctionDef)}
                if isinstance(node, ast.Attribute) and isinstance(node.ctx, ast.Store):
                    attributes.add(node.attr)
        self.assertEqual(methods & attributes, set())

    def test_methods_that_are_called(self):
        own = set()
        for path in FILES:
            own |= {node.name for node in nodes(path) if isinstance(node, ast.FunctionDef)}
        for path in FILES:
            for node in nodes(path):
                if isinstance(node, ast.Call) and isinstance(node.func, ast.Attribute):
                    self.assertIn(node.func.attr, own | BUILTIN_METHODS, path)

    def test_attributes_that_are_read_are_assigned(self):
        assigned, read = set(), set()
        for path in FILES:
            for node in nodes(path):
                if isinstance(node, ast.FunctionDef):
                    assigned.add(node.name)
                if isinstance(node, ast.Attribute):
                    (assigned if isinstance(node.ctx, ast.Store) else read).add(node.attr)
        self.assertEqual(read - assigned, BUILTIN_METHODS)

    def test_no_name_of_a_builtin_is_bound(self):
        for path in FILES:
            for node in nodes(path):
                name = None
                if isinstance(node, ast.Name) and isinstance(node.ctx, ast.Store):
                    name = node.id
                elif isinstance(node, ast.arg):
                    name = node.arg
                elif isinstance(node, (ast.FunctionDef, ast.ClassDef)):
                    name = node.name
                self.assertFalse(name is not None and name not in SPECIAL and hasattr(builtins, name), (path, name))

    def test_no_local_name_is_that_of_an_import_or_a_class(self):
        for path in FILES:
            taken = {alias.asname or alias.name for node in nodes(path) if isinstance(node, ast.ImportFrom)
                     for alias in node.names}
            taken |= {node.name for node in nodes(path) if isinstance(node, ast.ClassDef)}
            for node in nodes(path):
                if isinstance(node, ast.arg):
                    self.assertNotIn(node.arg, taken, path)
                if isinstance(node, ast.Name) and isinstance(node.ctx, ast.Store):
                    self.assertNotIn(node.id, taken, path)

    def test_names_are_imported_from_the_file_that_defines_them_and_in_no_circle(self):
        imported = {}
        for path in FILES:
            imported[path.stem] = []
            for node in nodes(path):
                if isinstance(node, ast.ImportFrom):
                    other = node.module.split('.')[1]
                    imported[path.stem].append(other)
                    tree = ast.parse((PACKAGE / (other + '.py')).read_text())
                    defined = {part.name for part in tree.body if isinstance(part, (ast.FunctionDef, ast.ClassDef))}
                    self.assertLessEqual({alias.name for alias in node.names}, defined, path)
        while imported:
            free = [name for name in imported if not set(imported[name]) & set(imported)]
            self.assertTrue(free, imported)
            for name in free:
                del imported[name]

    def test_each_import_is_used(self):
        for path in FILES:
            used = {node.id for node in nodes(path) if isinstance(node, ast.Name)}
            for node in nodes(path):
                if isinstance(node, ast.ImportFrom):
                    self.assertLessEqual({alias.name for alias in node.names}, used, path)

    def test_is_only_with_none(self):
        for path in FILES:
            for node in nodes(path):
                if isinstance(node, ast.Compare) and any(isinstance(sign, (ast.Is, ast.IsNot)) for sign in node.ops):
                    self.assertTrue(all(isinstance(side, ast.Constant) for side in node.comparators), path)

    def test_any_and_its_kin_take_lists(self):
        for path in FILES:
            for node in nodes(path):
                if isinstance(node, ast.Call) and isinstance(node.func, ast.Name):
                    if node.func.id in ('any', 'all', 'sum'):
                        self.assertIsInstance(node.args[0], ast.ListComp, path)
