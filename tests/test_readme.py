"""The examples of README.md come out as it says."""

import doctest
import pathlib
import unittest

README = pathlib.Path(__file__).resolve().parent.parent / "README.md"


class TestReadme(unittest.TestCase):
    def test_the_examples(self):
        told = doctest.testfile(str(README), module_relative=False)
        self.assertGreater(told.attempted, 10)
        self.assertEqual(told.failed, 0)
