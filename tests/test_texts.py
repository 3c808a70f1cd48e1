"""Promise [20]: rows and sums as texts."""

import re
import unittest

from flatmeet.texts import rows_text, sum_text
from given import NINES, WAYS, Numbers


class RowsText(unittest.TestCase):

    def test_known(self):
        for rows, wanted in [
            ([], "nothing"),
            ([[1, 0, -2]], "(1,0,-2)"),
            ([[0]], "(0)"),
            ([[-7]], "(-7)"),
            ([[1, 0], [0, 1]], "(1,0) (0,1)"),
            ([[1], [2], [-3]], "(1) (2) (-3)"),
            ([[0, 0, 0, 0, 0]] * 2, "(0,0,0,0,0) (0,0,0,0,0)"),
            ([[NINES, -NINES]], "(" + "9" * 60 + ",-" + "9" * 60 + ")"),
            ([[10 ** 3999]], "(1" + "0" * 3999 + ")"),
        ]:
            told = rows_text(rows)
            self.assertIs(type(told), str)
            self.assertEqual(told, wanted)

    def test_read_again(self):
        numbers = Numbers(20)
        for many in WAYS:
            for count in range(1, 13):
                rows = numbers.rows(many, count, NINES if count % 2 else 5)
                words = rows_text(rows).split(" ")
                self.assertEqual([[int(part) for part in word[1:-1].split(",")] for word in words], rows)
                self.assertEqual({word[0] + word[-1] for word in words}, {"()"})


class SumText(unittest.TestCase):

    def test_known(self):
        for some, wanted in [
            ([], "0"),
            ([((0, 1), 2), ((2, 3), -1)], "2e01 - e23"),
            ([((), -2)], "-2e"),
            ([((), 1)], "1e"),
            ([((), -1)], "-1e"),
            ([((), 2)], "2e"),
            ([((0,), 1)], "e0"),
            ([((0,), -1)], "-e0"),
            ([((4,), 10)], "10e4"),
            ([((4,), -11)], "-11e4"),
            ([((0,), 1), ((1,), 1)], "e0 + e1"),
            ([((0,), -1), ((1,), -1)], "-e0 - e1"),
            ([((0,), -3), ((1,), 12), ((2,), -1)], "-3e0 + 12e1 - e2"),
            ([((0, 1, 2, 3, 4), 1)], "e01234"),
            ([((0, 1, 2), 1), ((1, 3, 4), -21)], "e012 - 21e134"),
            ([((0, 2), NINES), ((1, 2), -NINES)], "9" * 60 + "e02 - " + "9" * 60 + "e12"),
            ([((), 10 ** 3999)], "1" + "0" * 3999 + "e"),
        ]:
            told = sum_text(some)
            self.assertIs(type(told), str)
            self.assertEqual(told, wanted)

    def test_read_again(self):
        numbers = Numbers(201)
        for many in WAYS:
            for size in range(many + 1):
                for bound in (1, 2, 50, NINES):
                    some = numbers.sum(many, size, bound)
                    told = sum_text(some)
                    if some:
                        spread = ("+ " if told[0] != "-" else "- ") + told.lstrip("-")
                        self.assertRegex(spread, r"^[+-] \d*e\d*( [+-] \d*e\d*)*$")
                        read = [(tuple(int(figure) for figure in places), int(front + (number or "1")))
                                for front, number, places in re.findall(r"([+-]) (\d*)e(\d*)", spread)]
                        self.assertEqual(read, some)
                    else:
                        self.assertEqual(told, "0")


if __name__ == "__main__":
    unittest.main()
