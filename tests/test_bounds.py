import unittest

from checks import Checks
from drawnturns import bounds


class TestBounds(Checks, unittest.TestCase):
    def test_all_nine_are_as_told(self):
        told = {
            "MAX_CELLS": 10,
            "MAX_TREE": 5,
            "MAX_NUMBER": 10 ** 6,
            "MAX_WORTH": 10 ** 12,
            "MAX_PARTS": 200,
            "MAX_DEEP": 8,
            "MAX_MIXED": 6,
            "MAX_SIDE": 12,
            "MAX_EDITS": 100,
        }
        for name, wanted in told.items():
            with self.subTest(name=name):
                self.assert_same(getattr(bounds, name), wanted)


if __name__ == "__main__":
    unittest.main()
