"""How the files of the package are written: rules that ../shared/LANGUAGE.md tells, as far as they can be seen plainly."""

import ast
import builtins
import pathlib
import re
import unittest

PACKAGE = pathlib.Path(__file__).parent.parent / 'withoutloops'
FILES = sorted(path for path in PACKAGE.rglob('*') if path.is_file() and '__pycache__' not in path.parts)
# Where examples are run, the last answer is kept as a builtin's name.
PYTHON_NAMES = set(dir(builtins)) - {'_'}
TREES = {path: ast.parse(path.read_text(encoding='utf-8')) for path in FILES if path.suffix == '.py'}

LISTED = {
    'asks': 'Question width',
    'engines': 'answered joined looks',
    'rewriting': 'pushed few_names alike shows_alike hangs_on',
    'keepers': 'Keeper',
    'books': 'Book booked is_right first_wrong',
    'going': 'going_keeper way shows_way cut shows_cut in_sequence shows_in_sequence ring shows_ring meets',
    'webs': 'web_keeper side_keeper least_keeper forest path part_of parts is_forest two_sides odd_ring shows_odd_ring '
            'joins_again',
    'numbers': 'number_keeper used number_of place_of how_many summed product over_half evenly',
    'carrying': 'led_store turned_rows bound_of most_turned far_turned',
    'makers': 'with_answer beside both_hold either_holds differs carried',
    'judging': 'standings judged shows_judged alike shows_alike parted shows_parted acts on_road shows_on_road needless',
    'far': 'many behind answer_behind again_after',
    'benches': 'Bench',
    'journals': 'journal read_journal',
    'desk': 'Desk',
    'words': 'word_keeper word_of reads between both either least letters other turned',
}
METHODS = {
    'asks': '__init__ __eq__', 'keepers': '__init__ __eq__', 'books': '__init__ put strike do table wished copy __len__ __eq__',
    'benches': '__init__ put strike book_now undo redo tried keep copy __len__ __eq__', 'desk': '__init__ say',
}

BUILTINS = (
    'len range enumerate zip min max sum abs sorted reversed int str bool list tuple dict set isinstance ord repr any all '
    'divmod ValueError TypeError KeyError'
).split()
BUILTIN_METHODS = (
    'append clear copy count endswith extend find get index insert isalnum isalpha isdigit islower isspace isupper items '
    'join keys ljust lower lstrip partition pop remove replace reverse rfind rjust rpartition rsplit rstrip setdefault '
    'split splitlines startswith strip update upper values zfill bit_length add discard'
).split()
UNUSED_WORDS = (
    'type typing enum Enum IntEnum StrEnum Flag IntFlag Generic Protocol ABC namedtuple register mro elements open input law '
    'eval exec exit globals locals vars dir id help license compile os sys'
).split()
STATEMENTS = (
    ast.Import, ast.Global, ast.Nonlocal, ast.AsyncFunctionDef, ast.AnnAssign, ast.Yield, ast.YieldFrom, ast.Await,
    ast.GeneratorExp, ast.SetComp, ast.With, ast.Match, ast.NamedExpr,
)
# What goes over a range, a zip or the like at once.
GOES_OVER = 'list tuple dict sorted sum any all enumerate zip min max'.split()


def each(kind):
    return [(path, node) for path, tree in TREES.items() for node in ast.walk(tree) if isinstance(node, kind)]


def module_of(path):
    return f'withoutloops.{path.stem}'


def imports_of(tree):
    return [node for node in tree.body if isinstance(node, ast.ImportFrom)]


class Files(unittest.TestCase):
    def test_there_are_files_of_the_package_alone(self):
        self.assertTrue(FILES)
        for path in FILES:
            self.assertEqual(path.suffix, '.py', path)
            self.assertRegex(path.stem, '[a-z_]+')

    def test_lines_and_signs(self):
        for path in FILES:
            text = path.read_text(encoding='utf-8')
            lines = text.split('\n')
            self.assertLess(len(lines), 400, path)
            self.assertLessEqual(max(len(line) for line in lines), 120, path)
            self.assertTrue(all(' ' <= sign <= '~' or sign == '\n' for sign in text), path)

    def test_functions_are_small(self):
        for path, node in each(ast.FunctionDef):
            self.assertLessEqual(node.end_lineno - node.lineno + 1, 40, (path, node.name))

    def test_each_has_a_docstring(self):
        for path, tree in TREES.items():
            self.assertIsNotNone(ast.get_docstring(tree), path)
            for node in tree.body:
                if isinstance(node, (ast.FunctionDef, ast.ClassDef)):
                    self.assertIsNotNone(ast.get_docstring(node), (path, node.name))

    def test_names_are_bound_in_the_file_that_defines_them(self):
        for name, wanted in LISTED.items():
            tree = TREES[PACKAGE / f'{name}.py']
            defined = [node.name for node in tree.body if isinstance(node, (ast.FunctionDef, ast.ClassDef))]
            for one in wanted.split():
                self.assertEqual(defined.count(one), 1, (name, one))

    def test_methods_stand_in_the_body_of_their_class(self):
        for name, wanted in METHODS.items():
            classes = [node for node in TREES[PACKAGE / f'{name}.py'].body if isinstance(node, ast.ClassDef) and node.name in LISTED[name]]
            self.assertEqual(len(classes), 1)
            defined = [node.name for node in classes[0].body if isinstance(node, ast.FunctionDef)]
            for one in wanted.split():
                self.assertEqual(defined.count(one), 1, (name, one))


class Imports(unittest.TestCase):
    def test_imports_are_of_the_package(self):
        for path, node in each(ast.ImportFrom):
            self.assertEqual((node.module.split('.')[0], node.level), ('withoutloops', 0), path)
            self.assertTrue(all(alias.asname is None and alias.name != '*' for alias in node.names), path)

    def test_names_are_imported_from_the_file_that_defines_them_and_used(self):
        for path, tree in TREES.items():
            used = {node.id for node in ast.walk(tree) if isinstance(node, ast.Name)}
            for node in imports_of(tree):
                other = TREES[PACKAGE / f'{node.module.split(".")[1]}.py']
                names = {one.name for one in other.body if isinstance(one, (ast.FunctionDef, ast.ClassDef))}
                names |= {one.targets[0].id for one in other.body if isinstance(one, ast.Assign)}
                for alias in node.names:
                    self.assertIn(alias.name, names, path)
                    self.assertIn(alias.name, used, path)

    def test_no_two_files_import_from_each_other(self):
        leads = {module_of(path): {node.module for node in imports_of(tree)} for path, tree in TREES.items()}
        while leads:
            ends = [name for name, modules in leads.items() if not modules & set(leads)]
            self.assertTrue(ends, leads)
            leads = {name: modules for name, modules in leads.items() if name not in ends}


class Statements(unittest.TestCase):
    def test_statements_that_are_not_used_here(self):
        for path, node in each(STATEMENTS):
            self.fail((path, node.lineno))
        for path, node in each((ast.FunctionDef, ast.ClassDef)):
            self.assertEqual(node.decorator_list, [], path)

    def test_module_level(self):
        for path, tree in TREES.items():
            bound = []
            for at, node in enumerate(tree.body):
                if isinstance(node, ast.Expr):
                    self.assertEqual(at, 0, path)
                elif isinstance(node, ast.Assign):
                    self.assertTrue(len(node.targets) == 1 and isinstance(node.targets[0], ast.Name), path)
                    ast.literal_eval(node.value)
                    bound.append(node.targets[0].id)
                elif isinstance(node, ast.ImportFrom):
                    bound += [alias.name for alias in node.names]
                else:
                    self.assertIsInstance(node, (ast.FunctionDef, ast.ClassDef), path)
                    bound.append(node.name)
            self.assertEqual(len(bound), len(set(bound)), path)
            self.assertFalse(set(bound) & PYTHON_NAMES, path)

    def test_errors(self):
        own = {node.name for node in TREES[PACKAGE / 'errors.py'].body if isinstance(node, ast.ClassDef)}
        for path, node in each(ast.ExceptHandler):
            kinds = node.type.elts if isinstance(node.type, ast.Tuple) else [node.type]
            self.assertTrue(all(kind.id in own for kind in kinds), path)
        for path, node in each(ast.Raise):
            self.assertIn(node.exc.func.id, own, path)
            self.assertEqual(len(node.exc.args), 1, path)

    def test_finally(self):
        """Simple names and attributes are assigned, all together or one, perhaps if a name is None."""
        for path, node in each(ast.Try):
            for statement in node.finalbody:
                plain = statement.body if isinstance(statement, ast.If) else [statement]
                if isinstance(statement, ast.If):
                    self.assertRegex(ast.unparse(statement.test), r'^\w+ is None$', path)
                    self.assertEqual(statement.orelse, [], path)
                for one in plain:
                    self.assertIsInstance(one, ast.Assign, path)
                    self.assertRegex(ast.unparse(one), r'^\(?[\w.]+(, [\w.]+)*\)? = \(?[\w.]+(, [\w.]+)*\)?$', path)

    def test_attributes_are_assigned_through_a_local_name(self):
        for path, node in each(ast.Attribute):
            if isinstance(node.ctx, ast.Store):
                self.assertIsInstance(node.value, ast.Name, (path, node.lineno))

    def test_no_method_is_called_like_one_that_changes_lists_and_sets(self):
        methods = {one.name for _, node in each(ast.ClassDef) for one in node.body if isinstance(one, ast.FunctionDef)}
        self.assertFalse(methods & {'add', 'discard', 'append', 'clear', 'extend', 'insert', 'pop', 'remove', 'reverse', 'update', 'keys'})

    def test_what_is_gone_over_at_once(self):
        for path, tree in TREES.items():
            right = set()
            for node in ast.walk(tree):
                if isinstance(node, (ast.For, ast.comprehension)):
                    right.add(node.iter)
                if isinstance(node, ast.Call) and isinstance(node.func, ast.Name) and node.func.id in GOES_OVER:
                    right |= set(node.args[:1] if node.func.id != 'zip' else node.args)
            kept = {
                node.value for node in ast.walk(tree)
                if isinstance(node, ast.Assign) and isinstance(node.value, ast.Call) and isinstance(node.targets[0], ast.Name)
                and isinstance(node.value.func, ast.Name) and node.value.func.id == 'range'
            }
            for node in ast.walk(tree):
                if isinstance(node, ast.Call) and self.goes(node.func):
                    self.assertIn(node, right | kept, (path, node.lineno))

    def goes(self, called):
        if isinstance(called, ast.Name):
            return called.id in ('range', 'zip', 'enumerate', 'reversed')
        return isinstance(called, ast.Attribute) and called.attr in ('items', 'keys', 'values')

    def test_sets(self):
        for path, tree in TREES.items():
            right = set()
            for node in ast.walk(tree):
                if isinstance(node, ast.Call) and isinstance(node.func, ast.Name) and node.func.id in ('len', 'sorted'):
                    right |= set(node.args)
                if isinstance(node, ast.Assign) and isinstance(node.targets[0], ast.Name):
                    right.add(node.value)
            for node in ast.walk(tree):
                if isinstance(node, ast.Call) and isinstance(node.func, ast.Name) and node.func.id == 'set':
                    self.assertIn(node, right, (path, node.lineno))


class Names(unittest.TestCase):
    def test_builtins(self):
        for path, tree in TREES.items():
            for node in ast.walk(tree):
                if isinstance(node, ast.Name) and node.id in PYTHON_NAMES:
                    self.assertIn(node.id, BUILTINS, (path, node.lineno))
                    self.assertIsInstance(node.ctx, ast.Load, (path, node.lineno))

    def test_parameters_and_variables(self):
        for path, tree in TREES.items():
            barred = {node.name for node in tree.body if isinstance(node, ast.ClassDef)} | PYTHON_NAMES
            for node in imports_of(tree):
                barred |= {alias.name for alias in node.names}
            for node in ast.walk(tree):
                if isinstance(node, ast.arg):
                    self.assertNotIn(node.arg, barred, (path, node.lineno))
                if isinstance(node, ast.Name) and isinstance(node.ctx, ast.Store):
                    self.assertNotIn(node.id, barred, (path, node.lineno))
                    self.assertNotIn(node.id, UNUSED_WORDS, (path, node.lineno))
                if isinstance(node, ast.Name) and node.id == '_':
                    self.assertIsInstance(node.ctx, ast.Store, (path, node.lineno))

    def test_methods_and_attributes(self):
        methods, attributes = {'__init__'}, set()
        for _, node in each(ast.ClassDef):
            methods |= {one.name for one in node.body if isinstance(one, ast.FunctionDef)}
        for _, node in each(ast.Attribute):
            if isinstance(node.ctx, ast.Store):
                attributes.add(node.attr)
        called = {node.func for _, node in each(ast.Call)}
        for path, node in each(ast.Attribute):
            if node in called:
                self.assertIn(node.attr, methods | set(BUILTIN_METHODS), (path, node.lineno))
            else:
                self.assertIn(node.attr, attributes, (path, node.lineno))
            self.assertNotIn(node.attr, UNUSED_WORDS, (path, node.lineno))
        self.assertFalse(attributes & set(BUILTIN_METHODS))

    def test_no_name_is_a_method_and_an_attribute(self):
        methods = {one.name for _, node in each(ast.ClassDef) for one in node.body if isinstance(one, ast.FunctionDef)}
        attributes = {node.attr for _, node in each(ast.Attribute) if isinstance(node.ctx, ast.Store)}
        self.assertEqual(methods & attributes, set())

    def test_strings(self):
        words = re.compile(r'\b(' + '|'.join(UNUSED_WORDS[:14]) + r')\b')
        for path, tree in TREES.items():
            docstrings = {
                node.body[0].value for node in ast.walk(tree)
                if isinstance(node, (ast.Module, ast.ClassDef, ast.FunctionDef)) and isinstance(node.body[0], ast.Expr)
            }
            for node in ast.walk(tree):
                if isinstance(node, ast.Constant) and isinstance(node.value, str) and node not in docstrings:
                    self.assertNotIn('%', node.value, (path, node.lineno))
                    self.assertNotIn('__', node.value, (path, node.lineno))
                    self.assertIsNone(words.search(node.value), (path, node.lineno))
                if isinstance(node, (ast.Name, ast.Attribute)):
                    name = node.id if isinstance(node, ast.Name) else node.attr
                    self.assertTrue(not name.startswith('__') or name == '__init__', (path, node.lineno))

    def test_numbers(self):
        for path, node in each(ast.Constant):
            self.assertNotIsInstance(node.value, (float, complex, bytes), (path, node.lineno))
        for path, node in each(ast.BinOp):
            self.assertNotIsInstance(node.op, (ast.Div, ast.Pow), (path, node.lineno))
