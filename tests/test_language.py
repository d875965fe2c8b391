"""How the files of the package are written: the bounds and the imports that ../shared/LANGUAGE.md tells."""

import ast
import pathlib
import unittest

PACKAGE = pathlib.Path(__file__).parent.parent / 'withoutloops'
FILES = sorted(path for path in PACKAGE.rglob('*') if path.is_file() and '__pycache__' not in path.parts)


class Language(unittest.TestCase):
    def test_there_are_files_of_the_package_alone(self):
        self.assertTrue(FILES)
        for path in FILES:
            self.assertEqual(path.suffix, '.py', path)

    def test_lines_and_signs(self):
        for path in FILES:
            text = path.read_text(encoding='utf-8')
            lines = text.split('\n')
            self.assertLess(len(lines), 400, path)
            self.assertLessEqual(max(len(line) for line in lines), 120, path)
            self.assertTrue(all(' ' <= sign <= '~' or sign == '\n' for sign in text), path)

    def test_functions_are_small(self):
        for path in FILES:
            for node in ast.walk(ast.parse(path.read_text(encoding='utf-8'))):
                if isinstance(node, ast.FunctionDef):
                    self.assertLessEqual(node.end_lineno - node.lineno + 1, 40, (path, node.name))

    def test_imports_are_of_the_package(self):
        for path in FILES:
            for node in ast.walk(ast.parse(path.read_text(encoding='utf-8'))):
                self.assertNotIsInstance(node, ast.Import, path)
                if isinstance(node, ast.ImportFrom):
                    self.assertEqual((node.module.split('.')[0], node.level), ('withoutloops', 0), path)

    def test_names_are_bound_in_the_file_that_defines_them(self):
        listed = {
            'asks': ('Question', 'width'),
            'engines': ('answered', 'joined', 'looks'),
        }
        for name, wanted in listed.items():
            tree = ast.parse((PACKAGE / f'{name}.py').read_text(encoding='utf-8'))
            defined = [node.name for node in tree.body if isinstance(node, (ast.FunctionDef, ast.ClassDef))]
            for one in wanted:
                self.assertEqual(defined.count(one), 1, (name, one))
