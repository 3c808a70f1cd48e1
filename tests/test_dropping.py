"""Promise [19]: dropped and apart."""

import unittest
from fractions import Fraction

from flatmeet.dropping import apart, dropped
from flatmeet.flats import flat_of, parts
from flatmeet.hooks import weighed_sums
from flatmeet.sums import box_of
from given import NINES, RISING, WAYS, Numbers, divisor, in_flat, mix, row_kinds, weigh


def given(seed):
    """Rows, their flat, and a row beside it or in it."""
    numbers = Numbers(seed)
    for many in WAYS:
        for count in range(many + 2):
            for bound in (1, 5, 40, NINES):
                for rows in (numbers.rows(many, count, bound), numbers.hanging(many, count, bound)):
                    flat = flat_of(many, rows)
                    for row in (numbers.row(many, bound), numbers.row(many, 3), [0] * many,
                                mix(many, [numbers.number(-3, 3) for _ in flat.rows], flat.rows)):
                        yield rows, flat, row


class Dropped(unittest.TestCase):

    def test_known(self):
        self.assertEqual(dropped(flat_of(2, [[1, 1]]), [1, 0]), (2, [1, 1]))
        self.assertEqual(dropped(flat_of(2, [[1, 1]]), [3, 1]), (1, [2, 2]))
        self.assertEqual(dropped(flat_of(3, [[1, 0, 0], [0, 1, 0]]), [4, -5, 6]), (1, [4, -5, 0]))
        self.assertEqual(dropped(flat_of(3, [[1, 2, 2]]), [1, 0, 0]), (9, [1, 2, 2]))
        self.assertEqual(dropped(flat_of(3, [[1, 2, 2]]), [0, -1, 1]), (1, [0, 0, 0]))

    def test_of_all_sizes(self):
        for rows, flat, row in given(19):
            with self.subTest(rows=rows, row=row):
                told = dropped(flat, row)
                self.assertIs(type(told), tuple)
                bottom, tops = told
                self.assertIs(type(bottom), int)
                self.assertGreaterEqual(bottom, 1)
                row_kinds(self, [tops], flat.many)
                self.assertEqual(divisor(tops + [bottom]), 1)
                self.assertIsNotNone(parts(flat, tops))
                left = [bottom * number - top for number, top in zip(row, tops)]
                self.assertFalse(any(weigh(left, line) for line in flat.rows))

    def test_rows_of_the_flat_stay(self):
        for rows, flat, row in given(191):
            self.assertEqual(dropped(flat, row) == (1, row), parts(flat, row) is not None)

    def test_onto_nothing_and_onto_the_whole_space(self):
        for many in WAYS:
            nothing = flat_of(many, [])
            whole = flat_of(many, [[int(way == place) for way in range(many)] for place in range(many)])
            for row in ([0] * many, [3 - way for way in range(many)], [NINES] * many):
                self.assertEqual(dropped(nothing, row), (1, [0] * many))
                self.assertEqual(dropped(whole, row), (1, row))
                self.assertEqual(apart(nothing, row), (weigh(row, row), 1))
                self.assertEqual(apart(whole, row), (0, 1))


class Apart(unittest.TestCase):

    def test_known(self):
        self.assertEqual(apart(flat_of(2, [[1, 1]]), [1, 0]), (1, 2))
        self.assertEqual(apart(flat_of(2, [[1, 1]]), [3, 1]), (2, 1))
        self.assertEqual(apart(flat_of(3, [[1, 0, 0], [0, 1, 0]]), [4, -5, 6]), (36, 1))
        self.assertEqual(apart(flat_of(3, [[1, 2, 2]]), [1, 0, 0]), (8, 9))
        self.assertEqual(apart(flat_of(1, []), [RISING]), (RISING ** 2, 1))

    def test_of_all_sizes(self):
        for rows, flat, row in given(192):
            with self.subTest(rows=rows, row=row):
                told = apart(flat, row)
                self.assertEqual([type(told), type(told[0]), type(told[1])], [tuple, int, int])
                top, bottom = told
                self.assertGreaterEqual(top, 0)
                self.assertGreaterEqual(bottom, 1)
                self.assertEqual(divisor([top, bottom]), 1)
                below, tops = dropped(flat, row)
                left = [below * number - one for number, one in zip(row, tops)]
                self.assertEqual(Fraction(top, bottom), Fraction(weigh(left, left), below ** 2))

    def test_nothing_just_where_the_row_is_in_the_flat(self):
        for rows, flat, row in given(193):
            self.assertEqual(apart(flat, row) == (0, 1), in_flat(rows, row))

    def test_against_boxes(self):
        seen = 0
        for rows, flat, row in given(194):
            whole = box_of(flat.many, rows)
            below = weighed_sums(whole, whole)
            if below != 0:
                seen += 1
                more = box_of(flat.many, rows + [row])
                self.assertEqual(Fraction(*apart(flat, row)), Fraction(weighed_sums(more, more), below))
        self.assertGreater(seen, 200)


if __name__ == "__main__":
    unittest.main()
