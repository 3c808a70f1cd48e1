"""Promise [16]: crossed, and the meets that it tells."""

import unittest

from flatmeet.boxes import box
from flatmeet.crossing import crossed
from flatmeet.errors import BadCount
from flatmeet.flats import flat_of
from flatmeet.hooks import turned_over
from flatmeet.meeting import join, meet
from flatmeet.sums import product
from given import BAD_COUNTS, NINES, WAYS, Numbers, gathered, multiplied, sign, sum_kinds


def over(many, some):
    told = []
    for places, number in some:
        left = tuple(way for way in range(many) if way not in places)
        told.append((left, number * sign(places + left)))
    return gathered(told)


class Crossed(unittest.TestCase):

    def test_known(self):
        self.assertEqual(crossed(3, [((0, 1), 1)], [((1, 2), 1)]), [((1,), 1)])
        self.assertEqual(crossed(3, [((1, 2), 1)], [((0, 1), 1)]), [((1,), -1)])
        self.assertEqual(crossed(3, [((0, 1), 2)], [((0, 1), 3)]), [])
        self.assertEqual(crossed(3, [((0, 1), 2)], [((2,), 3)]), [((), 6)])
        self.assertEqual(crossed(2, [((0, 1), 2)], [((1,), 5)]), [((1,), 10)])
        self.assertEqual(crossed(2, [((1,), 5)], [((0, 1), 2)]), [((1,), 10)])

    def test_its_word(self):
        numbers = Numbers(16)
        for many in WAYS:
            for size in range(many + 1):
                for other_size in range(many + 1):
                    for bound in (1, 9, NINES):
                        one, other = numbers.sum(many, size, bound), numbers.sum(many, other_size, bound)
                        told = crossed(many, one, other)
                        sum_kinds(self, told)
                        self.assertEqual(turned_over(many, told),
                                         product(turned_over(many, one), turned_over(many, other)))
                        self.assertEqual(over(many, told), multiplied(over(many, one), over(many, other)))
                        self.assertEqual({len(places) for places, number in told} - {size + other_size - many}, set())

    def test_with_all_places(self):
        numbers = Numbers(161)
        for many in WAYS:
            whole = [(tuple(range(many)), 1)]
            for size in range(many + 1):
                some = numbers.sum(many, size, 9)
                self.assertEqual(crossed(many, some, whole), some)
                self.assertEqual(crossed(many, whole, some), some)

    def test_with_nothing(self):
        for many in WAYS:
            self.assertEqual(crossed(many, [], []), [])
            self.assertEqual(crossed(many, [((0,), 1)], []), [])
            self.assertEqual(crossed(many, [], [((0,), 1)]), [])

    def test_meets(self):
        numbers = Numbers(162)
        seen = set()
        for many in WAYS:
            for one in range(many + 1):
                for other in range(many + 1):
                    for bound in (1, 3, NINES):
                        rows = numbers.rows(many, one, bound)
                        more = rows[:numbers.number(0, 1)] + numbers.rows(many, other, bound)
                        first, second = flat_of(many, rows), flat_of(many, more)
                        told = crossed(many, box(first), box(second))
                        whole = len(join(first, second).rows) == many
                        seen.add(whole)
                        if whole:
                            self.some_number_of_times(told, box(meet(first, second)))
                        else:
                            self.assertEqual(told, [])
        self.assertEqual(seen, {True, False})

    def some_number_of_times(self, told, wanted):
        often, left = divmod(told[0][1], wanted[0][1])
        self.assertEqual(left, 0)
        self.assertNotEqual(often, 0)
        self.assertEqual(told, [(places, often * number) for places, number in wanted])

    def test_bad_counts(self):
        for many in BAD_COUNTS:
            for one in ([], [((0,), 1)]):
                for other in ([], [((0, 1), 1)]):
                    with self.assertRaises(BadCount) as caught:
                        crossed(many, one, other)
                    self.assertIs(type(caught.exception), BadCount)


if __name__ == "__main__":
    unittest.main()
