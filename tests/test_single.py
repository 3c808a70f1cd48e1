"""Promises [12] and [13]: rows that span a sum as one box, or a rule that it breaks."""

import itertools
import unittest

from flatmeet.single import broken, spanned
from flatmeet.sums import box_of
from given import NINES, RISING, WAYS, Numbers, all_places, gathered, minors, multiplied, rank, row_kinds, sign


def times(some, often):
    return [(places, number * often) for places, number in some if often]


def rule(some, left, right):
    """The number that point 13 says is 0."""
    numbers = dict(some)

    def found(places):
        return sign(places) * numbers.get(tuple(sorted(places)), 0)

    total = 0
    for j, number in enumerate(right):
        part = found(left + (number,)) * found(tuple(right[:j]) + tuple(right[j + 1:]))
        total += -part if j % 2 else part
    return total


def one_box(many, size, some):
    """A sum other than 0 is one box just where as many rows as its size, hanging not on one another, make 0 of it."""
    if not some:
        return True
    products = [multiplied([((way,), 1)], some) for way in range(many)]
    columns = all_places(many, size + 1)
    table = [[dict(told).get(places, 0) for places in columns] for told in products]
    return many - (rank(table) if columns else 0) == size


class Single(unittest.TestCase):

    def is_one(self, many, size, some):
        told = spanned(many, size, some)
        row_kinds(self, told, many)
        self.assertEqual(len(told), size)
        self.assertEqual(box_of(many, told), some)
        self.assertEqual(minors(many, told), some)
        self.assertIsNone(broken(many, size, some))

    def is_none(self, many, size, some):
        self.assertIsNone(spanned(many, size, some))
        told = broken(many, size, some)
        self.assertIs(type(told), tuple)
        left, right = told
        for places, wanted in ((left, size - 1), (right, size + 1)):
            self.assertIs(type(places), tuple)
            self.assertEqual(len(places), wanted)
            self.assertEqual(list(places), sorted(set(places)))
            self.assertTrue(all(type(number) is int and 0 <= number < many for number in places))
        self.assertNotEqual(rule(some, left, right), 0)


class Boxes(Single):

    def test_boxes_of_rows_taken_so_often(self):
        numbers = Numbers(12)
        for many in WAYS:
            for size in range(1, many + 1):
                for bound in (1, 6, NINES):
                    some = minors(many, numbers.rows(many, size, bound))
                    for often in range(-6, 7):
                        with self.subTest(many=many, size=size, some=some, often=often):
                            self.is_one(many, size, times(some, often))

    def test_parted_boxes(self):
        """A box of whole rows whose numbers have a common divisor is one box taken fewer times, too."""
        numbers = Numbers(121)
        for many in (3, 4, 5):
            for size in range(1, many + 1):
                for part in (2, 6, 35):
                    rows = numbers.rows(many, size, 4)
                    rows[0] = [part * number for number in rows[0]]
                    some = [(places, number // part) for places, number in minors(many, rows)]
                    self.is_one(many, size, some)

    def test_the_sum_nothing(self):
        for many in WAYS:
            for size in range(1, many + 1):
                self.is_one(many, size, [])

    def test_one_term_alone(self):
        for many in WAYS:
            for size in range(1, many + 1):
                for places in all_places(many, size):
                    for number in (1, -1, 7, -NINES):
                        self.is_one(many, size, [(places, number)])

    def test_size_one_and_sizes_at_the_end(self):
        numbers = Numbers(122)
        for many in WAYS:
            for size in {1, many - 1, many} - {0}:
                for bound in (1, 9, RISING):
                    for _ in range(5):
                        self.is_one(many, size, numbers.sum(many, size, bound))


class Sums(Single):

    def check(self, many, size, some):
        with self.subTest(many=many, size=size, some=some):
            if one_box(many, size, some):
                self.is_one(many, size, some)
            else:
                self.is_none(many, size, some)

    def test_four_ways_and_size_two(self):
        both = set()
        for numbers in itertools.product((-1, 0, 1), repeat=6):
            one, two, three, four, five, six = numbers
            some = [term for term in zip(all_places(4, 2), numbers) if term[1]]
            kept = one * six - two * five + three * four == 0
            both.add(kept)
            if kept:
                self.is_one(4, 2, some)
            else:
                self.is_none(4, 2, some)
        self.assertEqual(both, {True, False})

    def test_known_ones_that_are_not_one_box(self):
        self.is_none(4, 2, [((0, 1), 1), ((2, 3), 1)])
        self.is_none(4, 2, [((0, 1), 2), ((2, 3), -1)])
        self.is_none(5, 2, [((0, 4), NINES), ((1, 2), 1)])
        self.is_none(5, 3, [((0, 1, 2), 1), ((0, 3, 4), 1)])
        self.is_none(5, 3, [((0, 1, 4), 1), ((2, 3, 4), RISING)])

    def test_five_ways(self):
        numbers = Numbers(123)
        for size in (2, 3):
            for bound in (1, 2, 9, NINES):
                for _ in range(40):
                    self.check(5, size, numbers.sum(5, size, bound))

    def test_few_terms_of_five_ways(self):
        for size in (2, 3):
            for one, other in itertools.combinations(all_places(5, size), 2):
                self.check(5, size, [(one, 2), (other, -3)])
            for three in itertools.combinations(all_places(5, size), 3):
                self.check(5, size, [(three[0], 1), (three[1], -1), (three[2], 2)])

    def test_one_box_but_for_one_number(self):
        numbers = Numbers(124)
        for many, size in ((4, 2), (5, 2), (5, 3)):
            for bound in (3, NINES):
                for _ in range(10):
                    some = minors(many, numbers.rows(many, size, bound))
                    for places in all_places(many, size):
                        self.check(many, size, gathered(some + [(places, 1)]))

    def test_two_boxes_together(self):
        numbers = Numbers(125)
        for many, size in ((3, 2), (4, 2), (4, 3), (5, 2), (5, 3), (5, 4)):
            for _ in range(20):
                rows, more = numbers.rows(many, size, 2), numbers.rows(many, size, 2)
                self.check(many, size, gathered(minors(many, rows) + minors(many, more)))
                # Two boxes with a common side are one box.
                self.check(many, size, gathered(minors(many, rows) + minors(many, rows[:-1] + more[-1:])))

    def test_each_rule_is_kept_just_where_broken_tells_none(self):
        numbers = Numbers(126)
        for many, size in ((4, 2), (5, 2), (5, 3)):
            for _ in range(30):
                some = numbers.sum(many, size, 1)
                kept = all(rule(some, left, right) == 0 for left in all_places(many, size - 1)
                           for right in all_places(many, size + 1))
                self.assertEqual(broken(many, size, some) is None, kept)
                self.assertEqual(spanned(many, size, some) is not None, kept)


if __name__ == "__main__":
    unittest.main()
