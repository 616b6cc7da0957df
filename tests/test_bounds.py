"""The interface's entry "bounds"."""

import unittest

from handsmade.bounds import HIGHEST, MOST


class Bounds(unittest.TestCase):
    def test_bounds_are_as_told(self):
        self.assertEqual((MOST, HIGHEST), (2000, 3))
        self.assertEqual((MOST.__class__, HIGHEST.__class__), (int, int))


if __name__ == "__main__":
    unittest.main()
