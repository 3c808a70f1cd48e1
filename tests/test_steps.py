"""The steps that the modules share."""

import unittest

from flatmeet.errors import NotAlike
from flatmeet.steps import pairs


class Pairs(unittest.TestCase):

    def test_side_by_side(self):
        self.assertEqual(pairs([1, 2], [3, 4]), [(1, 3), (2, 4)])
        self.assertEqual(pairs([], []), [])

    def test_unlike_lengths_are_refused(self):
        for one, other in [([], [1]), ([1], []), ([1, 2, 3], [1, 2])]:
            with self.assertRaises(NotAlike):
                pairs(one, other)


if __name__ == "__main__":
    unittest.main()
