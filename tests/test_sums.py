"""Promises [10] and [11]: made, added, taken, product and box_of."""

import itertools
import unittest

from flatmeet.sums import added, box_of, made, product, taken
from given import NINES, RISING, WAYS, Numbers, all_places, gathered, minors, multiplied, sum_kinds


def all_sizes(seed, bound):
    """Sums of all sizes in 1 to 5 ways, with 0 among them."""
    numbers = Numbers(seed)
    for many in WAYS:
        for size in range(many + 1):
            yield many, size, []
            yield many, size, numbers.sum(many, size, bound)
            yield many, size, numbers.sum(many, size, 1)


def couples(seed, bound):
    """Two sums of any sizes, in one space."""
    given = list(all_sizes(seed, bound))
    for many, size, one in given:
        for ways, other_size, other in given:
            if ways == many:
                yield many, size, other_size, one, other


class Sums(unittest.TestCase):

    def tells(self, told, wanted):
        sum_kinds(self, told)
        self.assertEqual(told, wanted)


class Made(Sums):

    def test_known(self):
        self.tells(made(3, 2, [((0, 1), 5)]), [((0, 1), 5)])
        self.tells(made(3, 2, [((1, 0), 5)]), [((0, 1), -5)])
        self.tells(made(3, 2, [((1, 1), 5)]), [])
        self.tells(made(3, 3, [((2, 0, 1), 4)]), [((0, 1, 2), 4)])
        self.tells(made(3, 3, [((2, 1, 0), 4)]), [((0, 1, 2), -4)])
        self.tells(made(3, 3, [((0, 2, 0), 4)]), [])
        self.tells(made(4, 2, [((2, 3), 1), ((0, 3), 2), ((0, 1), 3)]), [((0, 1), 3), ((0, 3), 2), ((2, 3), 1)])
        self.tells(made(4, 2, [((2, 3), 7), ((3, 2), 7)]), [])
        self.tells(made(4, 2, [((2, 3), 7), ((3, 2), -7)]), [((2, 3), 14)])
        self.tells(made(4, 2, [((2, 3), 7), ((1, 2), 0), ((2, 3), -7)]), [])
        self.tells(made(4, 1, [((3,), 1), ((0,), -2), ((3,), 1)]), [((0,), -2), ((3,), 2)])

    def test_size_none(self):
        for many in WAYS:
            self.tells(made(many, 0, [((), 3)]), [((), 3)])
            self.tells(made(many, 0, [((), 3), ((), -1)]), [((), 2)])
            self.tells(made(many, 0, [((), 3), ((), -3)]), [])

    def test_no_terms(self):
        for many in WAYS:
            for size in range(many + 1):
                self.tells(made(many, size, []), [])

    def test_all_orders_of_all_places(self):
        for many in WAYS:
            for size in range(many + 1):
                for places in itertools.product(range(many), repeat=size):
                    self.tells(made(many, size, [(places, 3)]), gathered([(places, 3)]))

    def test_each_exchange_of_neighbours_turns_about(self):
        for places in itertools.permutations(range(5)):
            told = made(5, 5, [(places, 1)])
            for place in range(4):
                other = places[:place] + (places[place + 1], places[place]) + places[place + 2:]
                self.tells(made(5, 5, [(other, -1)]), told)

    def test_up_to_32_terms(self):
        numbers = Numbers(10)
        for many in WAYS:
            for size in range(many + 1):
                for count in (1, 2, 5, 31, 32):
                    terms = [(tuple(numbers.number(0, many - 1) for _ in range(size)), numbers.number(-3, 3))
                             for _ in range(count)]
                    self.tells(made(many, size, terms), gathered(terms))
                    self.tells(made(many, size, terms[::-1]), gathered(terms))

    def test_many_figures(self):
        self.tells(made(2, 2, [((1, 0), NINES), ((0, 1), RISING)]), [((0, 1), RISING - NINES)])
        self.tells(made(2, 1, [((1,), NINES)] * 32), [((1,), 32 * NINES)])

    def test_of_a_sum_is_the_sum(self):
        for many, size, some in all_sizes(101, NINES):
            self.tells(made(many, size, some), some)


class AddedAndTaken(Sums):

    def test_known(self):
        self.tells(added([((0, 1), 2)], [((0, 1), -2), ((0, 2), 1)]), [((0, 2), 1)])
        self.tells(added([((1, 2), 2)], [((0, 2), 1)]), [((0, 2), 1), ((1, 2), 2)])
        self.tells(added([((), 2)], [((), -5)]), [((), -3)])
        self.tells(added([((), 2)], [((), -2)]), [])
        self.tells(added([], []), [])
        self.tells(taken([((0,), 2), ((3,), -1)], -3), [((0,), -6), ((3,), 3)])
        self.tells(taken([((), NINES)], NINES), [((), NINES * NINES)])

    def test_added_to_one_another(self):
        for many, size, other_size, one, other in couples(11, 9):
            if size == other_size:
                self.tells(added(one, other), gathered(one + other))
                self.tells(added(other, one), gathered(one + other))

    def test_adding_nothing_and_its_opposite(self):
        for many, size, some in all_sizes(111, NINES):
            self.tells(added(some, []), some)
            self.tells(added([], some), some)
            self.tells(added(some, taken(some, -1)), [])

    def test_taken(self):
        for many, size, some in all_sizes(112, 50):
            for often in (-NINES, -6, -1, 0, 1, 2, RISING):
                self.tells(taken(some, often), [(places, number * often) for places, number in some if often])


class Product(Sums):

    def test_known(self):
        self.tells(product([((0,), 2)], [((1,), 3)]), [((0, 1), 6)])
        self.tells(product([((1,), 2)], [((0,), 3)]), [((0, 1), -6)])
        self.tells(product([((1,), 2)], [((1,), 3)]), [])
        self.tells(product([((0, 2), 2)], [((1,), 3)]), [((0, 1, 2), -6)])
        self.tells(product([((), -2)], [((1, 4), 3)]), [((1, 4), -6)])
        self.tells(product([((1, 4), 3)], [((), -2)]), [((1, 4), -6)])
        self.tells(product([((0, 1), 1), ((2, 3), 1)], [((0, 1), 1), ((2, 3), 1)]), [((0, 1, 2, 3), 2)])

    def test_of_all_sizes(self):
        for many, size, other_size, one, other in couples(113, 9):
            told = product(one, other)
            self.tells(told, multiplied(one, other))
            # Each place of one goes past each place of the other one.
            self.tells(product(other, one), taken(told, (-1) ** (size * other_size)))

    def test_of_more_places_than_ways(self):
        seen = 0
        for many, size, other_size, one, other in couples(114, 9):
            if size + other_size > many:
                seen += 1
                self.tells(product(one, other), [])
        self.assertGreater(seen, 100)

    def test_with_nothing_and_with_one(self):
        for many, size, some in all_sizes(115, NINES):
            self.tells(product(some, []), [])
            self.tells(product([], some), [])
            self.tells(product(some, [((), 1)]), some)
            self.tells(product([((), 1)], some), some)

    def test_of_three_in_either_grouping(self):
        numbers = Numbers(116)
        for sizes in itertools.product(range(3), repeat=3):
            one, other, third = [numbers.sum(5, size, NINES) for size in sizes]
            self.tells(product(product(one, other), third), product(one, product(other, third)))


class BoxOf(Sums):

    def test_known(self):
        self.tells(box_of(2, [[1, 2], [3, 4]]), [((0, 1), -2)])
        self.tells(box_of(3, [[1, 0, 0], [0, 1, 0]]), [((0, 1), 1)])
        self.tells(box_of(3, [[0, 1, 0], [1, 0, 0]]), [((0, 1), -1)])
        self.tells(box_of(3, [[1, 0, -2]]), [((0,), 1), ((2,), -2)])
        self.tells(box_of(3, [[1, 2, 3], [2, 4, 6]]), [])
        self.tells(box_of(3, [[0, 0, 0]]), [])

    def test_of_no_row(self):
        for many in WAYS:
            self.tells(box_of(many, []), [((), 1)])

    def test_against_determinants(self):
        numbers = Numbers(117)
        for many in WAYS:
            for count in range(many + 1):
                for bound in (1, 9, NINES):
                    rows = numbers.rows(many, count, bound)
                    self.tells(box_of(many, rows), minors(many, rows))

    def test_of_more_rows_than_ways(self):
        numbers = Numbers(118)
        for many in WAYS:
            for count in range(many + 1, 13):
                self.tells(box_of(many, numbers.rows(many, count, 9)), [])

    def test_of_rows_that_hang_on_one_another(self):
        numbers = Numbers(119)
        for many in WAYS:
            for count in range(2, many + 2):
                rows = numbers.rows(many, count - 1, 9)
                rows.insert(1, [sum(column) for column in zip(*rows)])
                self.tells(box_of(many, rows), [])

    def test_box_of_rows_one_behind_another_is_the_product(self):
        numbers = Numbers(120)
        for one, other in itertools.product(range(4), repeat=2):
            rows, more = numbers.rows(5, one, 9), numbers.rows(5, other, 9)
            self.tells(box_of(5, rows + more), product(box_of(5, rows), box_of(5, more)))

    def test_all_places(self):
        for many in WAYS:
            for size in range(many + 1):
                for places in all_places(many, size):
                    rows = [[int(way == place) for way in range(many)] for place in places]
                    self.tells(box_of(many, rows), [(places, 1)])
                    self.tells(box_of(many, rows[::-1]), [(places, (-1) ** (size * (size - 1) // 2))])


if __name__ == "__main__":
    unittest.main()
