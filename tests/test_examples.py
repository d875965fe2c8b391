"""The examples of the document, as they are printed there."""

import doctest
import pathlib
import unittest

FOLDER = pathlib.Path(__file__).parent / 'examples'


class Examples(unittest.TestCase):
    def test_each_section_has_its_examples(self):
        self.assertEqual(sorted(path.name for path in FOLDER.iterdir()), sorted(f'section_{number}.txt' for number in range(4, 16)))

    def test_examples(self):
        for path in sorted(FOLDER.iterdir()):
            with self.subTest(path.name):
                failed, tried = doctest.testfile(str(path), module_relative=False)
                self.assertEqual(failed, 0)
                self.assertGreater(tried, 3)
