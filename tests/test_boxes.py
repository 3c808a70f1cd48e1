"""Promise [14]: boxes of flats, and the flat of a sum that is one box."""

import unittest

from flatmeet.boxes import box, flat_of_box
from flatmeet.errors import BadCount, BadSize, NoBox, ZeroSum
from flatmeet.flats import Flat, flat_of
from flatmeet.single import broken
from flatmeet.sums import box_of
from given import NINES, RISING, WAYS, Numbers, all_places, divisor, minors, rank, sign, sum_kinds


def flats(seed):
    """Flats of all sizes in 1 to 5 ways, of few figures and of many."""
    numbers = Numbers(seed)
    return [flat_of(many, numbers.rows(many, count, bound))
            for many in WAYS for count in range(many + 1) for bound in (1, 4, 30, NINES) for _ in range(2)]


class Box(unittest.TestCase):

    def test_known(self):
        self.assertEqual(box(flat_of(3, [[0, 0, -4]])), [((2,), 1)])
        self.assertEqual(box(flat_of(3, [[2, 4, 6], [1, 1, 1]])), [((0, 1), 1), ((0, 2), 2), ((1, 2), 1)])
        self.assertEqual(box(flat_of(2, [[3, 1], [1, 3]])), [((0, 1), 1)])

    def test_of_all_sizes(self):
        for flat in flats(14):
            told = box(flat)
            sum_kinds(self, told)
            self.assertEqual(told, minors(flat.many, flat.rows))
            self.assertEqual({len(places) for places, number in told}, {len(flat.rows)})
            self.assertEqual(divisor([number for places, number in told]), 1)
            self.assertGreater(told[0][1], 0)

    def test_of_nothing_and_of_the_whole_space(self):
        for many in WAYS:
            self.assertEqual(box(flat_of(many, [])), [((), 1)])
            whole = flat_of(many, [[int(way == place) for way in range(many)] for place in range(many)])
            self.assertEqual(box(whole), [(tuple(range(many)), 1)])


class FlatOfBox(unittest.TestCase):

    def tells(self, told, many, rows):
        self.assertIs(type(told), Flat)
        self.assertEqual((told.many, told.rows), (many, rows))

    def test_known(self):
        self.tells(flat_of_box(3, 1, [((0,), 4), ((2,), -6)]), 3, [[2, 0, -3]])
        self.tells(flat_of_box(3, 2, [((1, 2), -5)]), 3, [[0, 1, 0], [0, 0, 1]])
        self.tells(flat_of_box(1, 1, [((0,), -9)]), 1, [[1]])

    def test_of_a_flats_box_taken_so_many_times(self):
        for flat in flats(141):
            size = len(flat.rows)
            for often in (1, -1, 2, -3, 6, RISING, -NINES) if size else ():
                some = [(places, number * often) for places, number in box(flat)]
                self.tells(flat_of_box(flat.many, size, some), flat.many, flat.rows)

    def test_of_a_box_of_rows(self):
        numbers = Numbers(142)
        for many in WAYS:
            for size in range(1, many + 1):
                for bound in (2, 9, NINES):
                    rows = numbers.rows(many, size, bound)
                    if rank(rows) == size:
                        self.tells(flat_of_box(many, size, box_of(many, rows)), many, flat_of(many, rows).rows)
                    else:
                        with self.assertRaises(ZeroSum):
                            flat_of_box(many, size, box_of(many, rows))


class Refused(unittest.TestCase):

    def refusal(self, many, size, some):
        with self.assertRaises(ValueError) as caught:
            flat_of_box(many, size, some)
        return caught.exception

    def test_in_their_order(self):
        both = [((0, 1), 1), ((2, 3), 1)]
        for some in ([], both, [((0,), 1)]):
            for many in (0, 6, -NINES, NINES):
                for size in (0, 2, 9):
                    self.assertIs(type(self.refusal(many, size, some)), BadCount)
            for size in (0, -1, 5, NINES):
                self.assertIs(type(self.refusal(4, size, some)), BadSize)
        for many in WAYS:
            for size in range(1, many + 1):
                self.assertIs(type(self.refusal(many, size, [])), ZeroSum)
        self.assertIs(type(self.refusal(4, 2, both)), NoBox)

    def test_no_box_has_a_broken_rule(self):
        numbers = Numbers(143)
        seen = 0
        for many, size in ((4, 2), (5, 2), (5, 3)):
            for bound in (1, 3, NINES):
                for _ in range(20):
                    some = numbers.sum(many, size, bound)
                    rule = broken(many, size, some)
                    if rule is None:
                        continue
                    seen += 1
                    refusal = self.refusal(many, size, some)
                    self.assertIs(type(refusal), NoBox)
                    self.assertEqual(vars(refusal), {"left": rule[0], "right": rule[1]})
                    self.assertEqual([type(refusal.left), type(refusal.right)], [tuple, tuple])
                    self.assertNotEqual(self.reckoned(some, refusal.left, refusal.right), 0)
        self.assertGreater(seen, 100)

    def reckoned(self, some, left, right):
        total = 0
        for places, number in some:
            for others, other in some:
                for j, way in enumerate(right):
                    if sorted(left + (way,)) == list(places) and right[:j] + right[j + 1:] == others:
                        total += (-1) ** j * sign(left + (way,)) * number * other
        return total

    def test_all_sums_of_two_terms(self):
        for size in (2, 3):
            for one in all_places(5, size):
                for other in all_places(5, size):
                    if one < other:
                        some = [(one, 3), (other, -2)]
                        if len(set(one) & set(other)) == size - 1:
                            self.assertEqual(len(flat_of_box(5, size, some).rows), size)
                        else:
                            self.assertIs(type(self.refusal(5, size, some)), NoBox)


if __name__ == "__main__":
    unittest.main()
