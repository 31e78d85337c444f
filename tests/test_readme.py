"""What README.md shows is what the program answers."""

import doctest
import pathlib
import unittest

README = pathlib.Path(__file__).resolve().parent.parent / "README.md"


class ReadmeTest(unittest.TestCase):
    def test_what_is_shown(self):
        told = doctest.testfile(str(README), module_relative=False)
        self.assertEqual(told.failed, 0)
        self.assertGreater(told.attempted, 0)


if __name__ == "__main__":
    unittest.main()
