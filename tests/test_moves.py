"""Promise [17]: moved, moved_sum, determinant, behind, lesser and turned_back."""

import unittest

from flatmeet.moves import behind, determinant, lesser, moved, moved_sum, turned_back
from flatmeet.sums import added, box_of, product, taken
from given import NINES, RISING, WAYS, Numbers, all_places, det, gathered, minors, mix, row_kinds, sum_kinds, weigh


def tables(seed, each=3):
    """Tables of 1 to 5 rows, some with the determinant 0, some of many figures."""
    numbers = Numbers(seed)
    for many in WAYS:
        ones = [[int(way == place) for way in range(many)] for place in range(many)]
        yield ones
        yield [[-7 * number for number in row] for row in ones]
        yield ones[::-1]
        yield [[0] * many for _ in range(many)]
        for _ in range(each):
            yield numbers.rows(many, many, 1)
            yield numbers.rows(many, many, 9)
            yield numbers.rows(many, many, NINES)
        rows = numbers.rows(many, many - 1, 9)
        yield rows + [mix(many, [2, -1, 3, 1][:many - 1], rows)]
        yield [[RISING * (way + 1) - NINES * place for way in range(many)] for place in range(many)]


def led(table, row):
    return [weigh(line, row) for line in table]


class Moved(unittest.TestCase):

    def test_known(self):
        self.assertEqual(moved([[1, 2], [3, 4]], [5, 6]), [17, 39])
        self.assertEqual(moved([[0, 1], [1, 0]], [5, 6]), [6, 5])
        self.assertEqual(moved([[-3]], [5]), [-15])

    def test_rows(self):
        numbers = Numbers(17)
        for table in tables(17):
            many = len(table)
            for row in ([0] * many, numbers.row(many, 9), numbers.row(many, NINES)):
                told = moved(table, row)
                row_kinds(self, [told], many)
                self.assertEqual(told, led(table, row))
            for place in range(many):
                unit = [int(way == place) for way in range(many)]
                self.assertEqual(moved(table, unit), [line[place] for line in table])


class MovedSum(unittest.TestCase):

    def test_known(self):
        self.assertEqual(moved_sum([[1, 2], [3, 4]], [((0,), 5), ((1,), 6)]), [((0,), 17), ((1,), 39)])
        self.assertEqual(moved_sum([[1, 2], [3, 4]], [((0, 1), 3)]), [((0, 1), -6)])
        self.assertEqual(moved_sum([[0, 1], [1, 0]], [((0, 1), 3)]), [((0, 1), -3)])
        self.assertEqual(moved_sum([[1, 2], [2, 4]], [((0, 1), 3)]), [])
        self.assertEqual(moved_sum([[1, 2], [2, 4]], [((), 3)]), [((), 3)])

    def test_boxes_of_rows(self):
        numbers = Numbers(171)
        for table in tables(171):
            many = len(table)
            for size in range(many + 1):
                rows = numbers.rows(many, size, 9)
                told = moved_sum(table, box_of(many, rows))
                sum_kinds(self, told)
                self.assertEqual(told, box_of(many, [moved(table, row) for row in rows]))
                self.assertEqual(told, minors(many, [led(table, row) for row in rows]))

    def test_sums_term_by_term(self):
        numbers = Numbers(172)
        for table in tables(172):
            many = len(table)
            for size in range(many + 1):
                one, other = numbers.sum(many, size, 9), numbers.sum(many, size, NINES)
                self.assertEqual(moved_sum(table, added(one, taken(other, -3))),
                                 added(moved_sum(table, one), taken(moved_sum(table, other), -3)))
                wanted = []
                for places, number in one:
                    columns = [[line[way] for line in table] for way in places]
                    wanted.extend((where, number * part) for where, part in minors(many, columns))
                self.assertEqual(moved_sum(table, one), gathered(wanted))

    def test_products_and_one(self):
        numbers = Numbers(173)
        for table in tables(173, 1):
            many = len(table)
            self.assertEqual(moved_sum(table, [((), 1)]), [((), 1)])
            self.assertEqual(moved_sum(table, []), [])
            one, other = numbers.sum(many, 1, 9), numbers.sum(many, many // 2, 9)
            self.assertEqual(moved_sum(table, product(one, other)),
                             product(moved_sum(table, one), moved_sum(table, other)))


class Determinant(unittest.TestCase):

    def test_known(self):
        self.assertEqual(determinant([[-3]]), -3)
        self.assertEqual(determinant([[0]]), 0)
        self.assertEqual(determinant([[1, 2], [3, 4]]), -2)
        self.assertEqual(determinant([[2, 4], [1, 2]]), 0)

    def test_by_all_orderings(self):
        for table in tables(174):
            told = determinant(table)
            self.assertIs(type(told), int)
            self.assertEqual(told, det(table))

    def test_of_the_box_of_all_ways(self):
        for table in tables(175):
            whole = tuple(range(len(table)))
            self.assertEqual(moved_sum(table, [(whole, 1)]), gathered([(whole, determinant(table))]))


class Behind(unittest.TestCase):

    def couples(self):
        given = list(tables(176, 2))
        return [(one, other) for one in given for other in given if len(one) == len(other)]

    def test_known(self):
        self.assertEqual(behind([[1, 2], [3, 4]], [[0, 1], [1, 0]]), [[2, 1], [4, 3]])
        self.assertEqual(behind([[0, 1], [1, 0]], [[1, 2], [3, 4]]), [[3, 4], [1, 2]])

    def test_moves_as_the_first_one_moves_what_the_second_one_moved(self):
        numbers = Numbers(177)
        for one, other in self.couples():
            many = len(one)
            told = behind(one, other)
            row_kinds(self, told, many)
            self.assertEqual(len(told), many)
            for row in numbers.rows(many, 2, 9):
                self.assertEqual(moved(told, row), moved(one, moved(other, row)))
            for place in range(many):
                unit = [int(way == place) for way in range(many)]
                self.assertEqual([line[place] for line in told], led(one, led(other, unit)))

    def test_determinants_and_sums(self):
        numbers = Numbers(178)
        for one, other in self.couples():
            told = behind(one, other)
            self.assertEqual(determinant(told), determinant(one) * determinant(other))
            some = numbers.sum(len(one), (len(one) + 1) // 2, 5)
            self.assertEqual(moved_sum(told, some), moved_sum(one, moved_sum(other, some)))


class Lesser(unittest.TestCase):

    def test_known(self):
        table = [[1, 2, 3], [4, 5, 6], [7, 8, 10]]
        self.assertEqual(lesser(table, 0), [[1]])
        self.assertEqual(lesser(table, 1), table)
        self.assertEqual(lesser(table, 2), [[-3, -6, -3], [-6, -11, -4], [-3, -2, 2]])
        self.assertEqual(lesser(table, 3), [[-3]])

    def test_of_all_sizes(self):
        for table in tables(179, 2):
            many = len(table)
            for size in range(many + 1):
                places = all_places(many, size)
                told = lesser(table, size)
                row_kinds(self, told, len(places))
                self.assertEqual(told, [[det([[table[line][way] for way in ways] for line in lines])
                                         for ways in places] for lines in places])

    def test_of_none_and_of_all(self):
        for table in tables(180):
            self.assertEqual(lesser(table, 0), [[1]])
            self.assertEqual(lesser(table, 1), table)
            self.assertEqual(lesser(table, len(table)), [[determinant(table)]])

    def test_leads_sums_as_the_table_does(self):
        numbers = Numbers(181)
        for table in tables(181, 1):
            many = len(table)
            for size in range(many + 1):
                places, some = all_places(many, size), numbers.sum(many, size, 9)
                column = [dict(some).get(ways, 0) for ways in places]
                told = [(ways, weigh(line, column)) for ways, line in zip(places, lesser(table, size))]
                self.assertEqual(moved_sum(table, some), [term for term in told if term[1]])


class TurnedBack(unittest.TestCase):

    def test_known(self):
        self.assertEqual(turned_back([[5]]), [[1]])
        self.assertEqual(turned_back([[0]]), [[1]])
        self.assertEqual(turned_back([[1, 2], [3, 4]]), [[4, -2], [-3, 1]])

    def test_by_determinants(self):
        for table in tables(182):
            many = len(table)
            told = turned_back(table)
            row_kinds(self, told, many)
            wanted = []
            for a in range(many):
                wanted.append([(-1) ** (a + b) * det([[table[line][way] for way in range(many) if way != a]
                                                      for line in range(many) if line != b]) for b in range(many)])
            self.assertEqual(told, wanted)

    def test_on_either_side(self):
        for table in tables(183):
            many, often, told = len(table), det(table), turned_back(table)
            wanted = [[often * int(way == place) for way in range(many)] for place in range(many)]
            self.assertEqual(behind(told, table), wanted)
            self.assertEqual(behind(table, told), wanted)


class HandedInAgain(unittest.TestCase):

    def test_whatever_its_figures(self):
        table = Numbers(184).rows(4, 4, NINES)
        for _ in range(3):
            often = determinant(table)
            table = behind(table, turned_back(table))
            self.assertEqual(table, [[often * int(way == place) for way in range(4)] for place in range(4)])
            table[0][3] = 1
            self.assertEqual(determinant(table), often ** 4)


if __name__ == "__main__":
    unittest.main()
