"""What README.md shows is what the program does."""

import doctest
import pathlib
import unittest

README = pathlib.Path(__file__).resolve().parent.parent / "README.md"


class ReadmeTest(unittest.TestCase):
    def test_examples(self):
        told = doctest.testfile(str(README), module_relative=False)
        self.assertGreater(told.attempted, 5)
        self.assertEqual(told.failed, 0)


if __name__ == "__main__":
    unittest.main()
