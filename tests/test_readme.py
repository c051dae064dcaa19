"""Each row of README.md that is told with an answer gets this answer."""

import doctest
import unittest
from pathlib import Path

README = Path(__file__).parent.parent / "README.md"


class TestReadme(unittest.TestCase):
    def test_rows(self):
        failed, tried = doctest.testfile(str(README), module_relative=False)
        self.assertEqual(failed, 0)
        self.assertGreater(tried, 30)


if __name__ == "__main__":
    unittest.main()
