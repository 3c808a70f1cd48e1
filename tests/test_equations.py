"""Promise [18]: answer, bar and idle."""

import unittest
from fractions import Fraction

from flatmeet.equations import answer, bar, idle
from flatmeet.flats import Flat, flat_of
from flatmeet.meeting import square
from given import NINES, RISING, WAYS, Numbers, divisor, mix, rank, row_kinds, small_rows, weigh


def solvable(rows, ends):
    """Some fractions answer just where the ends hang on the rows as the rows do."""
    return rank(rows) == rank([row + [end] for row, end in zip(rows, ends)])


def systems(seed):
    """n, rows and ends: none to twelve equations, that hang on one another or not, with ends that do or not."""
    numbers = Numbers(seed)
    for many in WAYS:
        for count in range(13):
            for bound in (2, 30, NINES):
                for rows in (numbers.rows(many, count, bound), numbers.hanging(many, count, bound)):
                    tops, bottom = numbers.row(many, 9), numbers.number(1, 9)
                    held = [[number * bottom for number in row] for row in rows]
                    yield many, held, [weigh(row, tops) for row in rows]
                    yield many, rows, [weigh(row, tops) for row in rows]
                    yield many, rows, numbers.row(count, bound)
                    yield many, rows, [0] * count


class Equations(unittest.TestCase):

    def is_answer(self, many, rows, ends):
        told = answer(many, rows, ends)
        self.assertIs(type(told), tuple)
        bottom, tops = told
        self.assertIs(type(bottom), int)
        self.assertGreaterEqual(bottom, 1)
        row_kinds(self, [tops], many)
        self.assertEqual(divisor(tops + [bottom]), 1)
        for row, end in zip(rows, ends):
            self.assertEqual(weigh(row, tops), end * bottom)
            self.assertEqual(sum(Fraction(top, bottom) * number for top, number in zip(tops, row)), end)
        self.assertIsNone(bar(many, rows, ends))

    def is_barred(self, many, rows, ends):
        self.assertIsNone(answer(many, rows, ends))
        told = bar(many, rows, ends)
        row_kinds(self, [told], len(rows))
        self.assertEqual(mix(many, told, rows), [0] * many)
        self.assertNotEqual(weigh(told, ends), 0)

    def test_just_one_of_both_is_told(self):
        seen = {True: 0, False: 0}
        for many, rows, ends in systems(18):
            with self.subTest(many=many, rows=rows, ends=ends):
                found = solvable(rows, ends)
                seen[found] += 1
                if found:
                    self.is_answer(many, rows, ends)
                else:
                    self.is_barred(many, rows, ends)
        self.assertGreater(min(seen.values()), 200)

    def test_known(self):
        self.assertEqual(answer(1, [[2]], [1]), (2, [1]))
        self.assertEqual(answer(1, [[-2]], [4]), (1, [-2]))
        self.assertEqual(answer(2, [[1, 1], [1, -1]], [3, 0]), (2, [3, 3]))
        self.assertEqual(answer(2, [[2, 0], [0, 3]], [1, 1]), (6, [3, 2]))
        self.assertEqual(answer(3, [[1, 0, 0], [0, 1, 0], [0, 0, 1]], [4, -5, 6]), (1, [4, -5, 6]))

    def test_no_equations(self):
        for many in WAYS:
            self.is_answer(many, [], [])
            self.assertIsNone(bar(many, [], []))

    def test_rows_of_noughts(self):
        for many in WAYS:
            for count in (1, 2, 12):
                rows = [[0] * many for _ in range(count)]
                self.is_answer(many, rows, [0] * count)
                for place in range(count):
                    for end in (1, -1, NINES):
                        self.is_barred(many, rows, [end * int(place == other) for other in range(count)])
            self.is_barred(many, [[1] * many, [0] * many], [5, 3])
            self.is_answer(many, [[1] * many, [0] * many], [5, 0])

    def test_equations_that_say_unlike_things(self):
        self.is_barred(2, [[1, 2], [2, 4]], [1, 3])
        self.is_answer(2, [[1, 2], [2, 4]], [1, 2])
        self.is_barred(1, [[NINES], [RISING]], [1, 1])
        self.is_answer(1, [[NINES], [RISING]], [NINES * 3, RISING * 3])
        self.is_barred(3, [[1, 0, 0], [0, 1, 0], [1, 1, 0]], [1, 1, 3])

    def test_all_small_ones(self):
        for row in small_rows(2, 2):
            for other in small_rows(2, 1):
                for ends in ([0, 0], [1, 0], [0, 1], [2, -1]):
                    if solvable([row, other], ends):
                        self.is_answer(2, [row, other], ends)
                    else:
                        self.is_barred(2, [row, other], ends)

    def test_what_was_told_handed_in_again(self):
        numbers = Numbers(181)
        rows, ends = numbers.rows(4, 4, NINES), numbers.row(4, NINES)
        for _ in range(2):
            bottom, tops = answer(4, rows, ends)
            rows, ends = [tops] + numbers.rows(4, 3, NINES), [bottom, 1, 2, 3]
            self.is_answer(4, rows, ends)


class Idle(unittest.TestCase):

    def test_known(self):
        told = idle(3, [[1, 1, 1]])
        self.assertIs(type(told), Flat)
        self.assertEqual((told.many, told.rows), (3, [[1, 0, -1], [0, 1, -1]]))

    def test_weighs_nothing_with_all_rows(self):
        for many, rows, ends in systems(182):
            told = idle(many, rows)
            row_kinds(self, told.rows, many)
            self.assertEqual((told.many, len(told.rows)), (many, many - rank(rows)))
            self.assertFalse(any(weigh(one, other) for one in told.rows for other in rows))
            self.assertEqual(told.rows, square(flat_of(many, rows)).rows)

    def test_of_no_rows(self):
        for many in WAYS:
            ones = [[int(way == place) for way in range(many)] for place in range(many)]
            self.assertEqual(idle(many, []).rows, ones)
            self.assertEqual(idle(many, [[0] * many]).rows, ones)
            self.assertEqual(idle(many, ones).rows, [])


if __name__ == "__main__":
    unittest.main()
