"""The steps that the modules share."""

import unittest

from flatmeet.errors import NotAlike
from flatmeet.steps import bezout, cleared, common_divisor, lowest, makers, mixed, pairs, square_rows, units
from given import NINES, RISING, WAYS, Numbers, divisor, mix, rank, weigh


class Pairs(unittest.TestCase):

    def test_side_by_side(self):
        self.assertEqual(pairs([1, 2], [3, 4]), [(1, 3), (2, 4)])
        self.assertEqual(pairs([], []), [])

    def test_unlike_lengths_are_refused(self):
        for one, other in [([], [1]), ([1], []), ([1, 2, 3], [1, 2])]:
            with self.assertRaises(NotAlike):
                pairs(one, other)


class Divisors(unittest.TestCase):

    def lists(self):
        numbers = Numbers(3)
        yield from ([], [0], [0, 0], [5], [-5], [0, -6, 4], [6, 10, 15], [NINES, -RISING])
        for count in range(1, 6):
            for bound in (3, 30, NINES):
                yield numbers.row(count, bound)

    def test_common_divisor(self):
        for numbers in self.lists():
            self.assertEqual(common_divisor(numbers), divisor(numbers))

    def test_bezout(self):
        for one in list(range(-12, 13)) + [NINES, -NINES]:
            for other in list(range(-12, 13)) + [RISING, -RISING]:
                common, left, right = bezout(one, other)
                self.assertEqual(common, divisor([one, other]))
                self.assertEqual(left * one + right * other, common)

    def test_makers(self):
        for numbers in self.lists():
            self.assertEqual(weigh(makers(numbers), numbers), divisor(numbers))

    def test_lowest(self):
        self.assertEqual(lowest(6, [4, -8]), (3, [2, -4]))
        self.assertEqual(lowest(6, [0]), (1, [0]))
        self.assertEqual(lowest(6, []), (1, []))


class Rows(unittest.TestCase):

    def test_mixed_and_units(self):
        self.assertEqual(units(2), [[1, 0], [0, 1]])
        self.assertEqual(units(0), [])
        self.assertEqual(mixed(2, [2, -1], [[1, 2], [3, 4]]), [-1, 0])
        self.assertEqual(mixed(3, [], []), [0, 0, 0])

    def test_cleared(self):
        numbers = Numbers(31)
        for many in WAYS:
            for count in range(8):
                for rows in (numbers.rows(many, count, 9), numbers.hanging(many, count, NINES)):
                    marked = [row + mark for row, mark in zip(rows, units(count))]
                    found = cleared(many, marked)
                    self.assertGreater(found.bottom, 0)
                    self.assertEqual((len(found.heads), len(found.lines)), (rank(rows), count))
                    for place, line in enumerate(found.lines):
                        self.assertEqual(mix(many, line[many:], rows), line[:many])
                        self.assertEqual([line[way] for way in found.heads],
                                         [found.bottom * int(place == other) for other in range(len(found.heads))])
                        if place >= len(found.heads):
                            self.assertEqual(line[:many], [0] * many)
                            self.assertTrue(any(line[many:]))

    def test_square_rows(self):
        numbers = Numbers(32)
        for many in WAYS:
            for count in range(8):
                rows = numbers.hanging(many, count, 9)
                told = square_rows(many, rows)
                self.assertEqual(rank(told), len(told))
                self.assertEqual(len(told), many - rank(rows))
                self.assertFalse(any(weigh(one, other) for one in told for other in rows))


if __name__ == "__main__":
    unittest.main()
