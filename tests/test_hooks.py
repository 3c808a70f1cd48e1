"""Promise [15]: hooked, turned_over and weighed_sums."""

import unittest

from flatmeet.errors import BadCount, BadRow
from flatmeet.hooks import hooked, turned_over, weighed_sums
from flatmeet.sums import added, box_of, product, taken
from given import BAD_COUNTS, NINES, RISING, WAYS, Numbers, all_places, gathered, minors, sign, sum_kinds, weigh


def all_sizes(seed, least=0):
    numbers = Numbers(seed)
    for many in WAYS:
        for size in range(least, many + 1):
            for bound in (1, 9, NINES):
                yield many, size, numbers.sum(many, size, bound), numbers.row(many, bound)
            yield many, size, [], numbers.row(many, 9)


def hook(row, some):
    """Term by term, as the point tells it."""
    terms = []
    for places, number in some:
        for j, way in enumerate(places):
            left = tuple(other for other in places if other != way)
            terms.append((left, (-number if j % 2 else number) * row[way]))
    return gathered(terms)


class Hooked(unittest.TestCase):

    def tells(self, told, wanted):
        sum_kinds(self, told)
        self.assertEqual(told, wanted)

    def test_known(self):
        self.tells(hooked([2, 3, 5], [((0, 2), 7)]), [((0,), -35), ((2,), 14)])
        self.tells(hooked([2, 3, 5], [((1,), 7)]), [((), 21)])
        self.tells(hooked([2, 3], [((0,), 3), ((1,), -2)]), [])
        self.tells(hooked([1, 2, 3], [((0, 1, 2), 1)]), [((0, 1), 3), ((0, 2), -2), ((1, 2), 1)])

    def test_of_sizes_one_to_five(self):
        for many, size, some, row in all_sizes(15, 1):
            self.tells(hooked(row, some), hook(row, some))

    def test_twice_with_one_row_is_nothing(self):
        for many, size, some, row in all_sizes(151, 2):
            self.tells(hooked(row, hooked(row, some)), [])

    def test_of_two_rows_one_behind_the_other(self):
        numbers = Numbers(152)
        for many, size, some, row in all_sizes(152, 2):
            other = numbers.row(many, 9)
            self.tells(hooked(row, hooked(other, some)), taken(hooked(other, hooked(row, some)), -1))

    def test_of_a_product(self):
        numbers = Numbers(153)
        for one in range(1, 4):
            for other in range(1, 4):
                left, right, row = numbers.sum(5, one, 9), numbers.sum(5, other, 9), numbers.row(5, 9)
                wanted = added(product(hooked(row, left), right),
                               taken(product(left, hooked(row, right)), (-1) ** one))
                self.tells(hooked(row, product(left, right)), wanted)

    def test_of_one_row_is_what_it_weighs(self):
        numbers = Numbers(154)
        for many in WAYS:
            row, other = numbers.row(many, NINES), numbers.row(many, NINES)
            self.tells(hooked(row, box_of(many, [other])), gathered([((), weigh(row, other))]))

    def test_rows_of_noughts(self):
        for many, size, some, row in all_sizes(155, 1):
            self.tells(hooked([0] * many, some), [])

    def test_rows_that_are_too_short(self):
        for many in WAYS:
            for size in range(1, many + 1):
                for places in all_places(many, size):
                    for length in range(many + 2):
                        row, some = list(range(1, length + 1)), [(places, 2)]
                        if length > places[-1]:
                            self.tells(hooked(row, some), hook(row, some))
                        else:
                            with self.assertRaises(BadRow) as caught:
                                hooked(row, some)
                            self.assertIs(type(caught.exception), BadRow)

    def test_a_short_row_and_the_first_term_long_enough(self):
        with self.assertRaises(BadRow):
            hooked([1, 2, 3], [((0, 1), 1), ((0, 3), 1), ((1, 2), 1)])
        self.tells(hooked([1, 2, 3], [((0, 1), 1), ((1, 2), 1)]), hook([1, 2, 3], [((0, 1), 1), ((1, 2), 1)]))

    def test_of_nothing_no_row_is_too_short(self):
        for row in ([], [1], [0, 0], [NINES] * 12):
            self.tells(hooked(row, []), [])

    def test_longer_rows(self):
        self.tells(hooked([2, 3, 5, 7, 11, 13, 17], [((0, 2), 7)]), [((0,), -35), ((2,), 14)])


class TurnedOver(unittest.TestCase):

    def test_known(self):
        self.assertEqual(turned_over(3, [((0,), 2)]), [((1, 2), 2)])
        self.assertEqual(turned_over(3, [((1,), 2)]), [((0, 2), -2)])
        self.assertEqual(turned_over(3, [((0, 2), 5), ((1, 2), 7)]), [((0,), 7), ((1,), -5)])
        self.assertEqual(turned_over(2, [((), 4)]), [((0, 1), 4)])
        self.assertEqual(turned_over(2, [((0, 1), 4)]), [((), 4)])

    def test_product_with_its_turned_over_is_all_places_once(self):
        for many in WAYS:
            for size in range(many + 1):
                for places in all_places(many, size):
                    told = turned_over(many, [(places, 1)])
                    sum_kinds(self, told)
                    self.assertEqual([len(term[0]) for term in told], [many - size])
                    self.assertEqual(product([(places, 1)], told), [(tuple(range(many)), 1)])

    def test_of_all_sizes(self):
        for many, size, some, row in all_sizes(156):
            wanted = []
            for places, number in some:
                left = tuple(way for way in range(many) if way not in places)
                wanted.append((left, number * sign(places + left)))
            told = turned_over(many, some)
            sum_kinds(self, told)
            self.assertEqual(told, sorted(wanted))
            self.assertEqual(turned_over(many, told), taken(some, (-1) ** (size * (many - size))))

    def test_product_tells_how_sums_weigh(self):
        numbers = Numbers(157)
        for many, size, some, row in all_sizes(157):
            other = numbers.sum(many, size, 9)
            self.assertEqual(product(some, turned_over(many, other)),
                             gathered([(tuple(range(many)), weighed_sums(some, other))]))

    def test_bad_counts(self):
        for many in BAD_COUNTS:
            for some in ([], [((), 1)], [((0,), 1)]):
                with self.assertRaises(BadCount) as caught:
                    turned_over(many, some)
                self.assertIs(type(caught.exception), BadCount)


class WeighedSums(unittest.TestCase):

    def test_known(self):
        self.assertEqual(weighed_sums([((0, 1), 2), ((1, 2), 3)], [((0, 1), 5), ((0, 2), 7)]), 10)
        self.assertEqual(weighed_sums([((0, 1), 2)], [((0, 2), 7)]), 0)
        self.assertEqual(weighed_sums([((0, 1), 2), ((0, 2), 1)], [((0, 1), 1), ((0, 2), -2)]), 0)
        self.assertEqual(weighed_sums([((), 3)], [((), -4)]), -12)
        self.assertEqual(weighed_sums([((2,), NINES)], [((2,), RISING)]), NINES * RISING)

    def test_of_nothing(self):
        for some in ([], [((), 3)], [((0, 1), 2)]):
            for told in (weighed_sums([], some), weighed_sums(some, [])):
                self.assertEqual(told, 0)
                self.assertIs(type(told), int)

    def test_of_all_sizes(self):
        numbers = Numbers(158)
        for many, size, some, row in all_sizes(158):
            other = numbers.sum(many, size, 2)
            wanted = sum(number * dict(other).get(places, 0) for places, number in some)
            self.assertEqual(weighed_sums(some, other), wanted)
            self.assertEqual(weighed_sums(other, some), wanted)

    def test_boxes_weigh_by_the_determinant_of_what_their_rows_weigh(self):
        numbers = Numbers(159)
        for many in WAYS:
            for size in range(1, many + 1):
                rows, more = numbers.rows(many, size, 9), numbers.rows(many, size, 9)
                table = [[weigh(one, other) for other in more] for one in rows]
                wanted = dict(minors(size, table)).get(tuple(range(size)), 0)
                self.assertEqual(weighed_sums(box_of(many, rows), box_of(many, more)), wanted)


if __name__ == "__main__":
    unittest.main()
