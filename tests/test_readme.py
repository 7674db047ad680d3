"""What README.md shows is what the program answers."""

import doctest
import unittest
from pathlib import Path


class Readme(unittest.TestCase):
    def test_examples(self):
        path = Path(__file__).resolve().parent.parent / "README.md"
        failed, tried = doctest.testfile(str(path), module_relative=False)
        self.assertEqual(failed, 0)
        self.assertGreater(tried, 0)


if __name__ == "__main__":
    unittest.main()
