"""Promise [9]: join, meet, square and within."""

import itertools
import unittest

from flatmeet.flats import Flat, flat_of, parts
from flatmeet.meeting import join, meet, square, within
from given import NINES, RISING, WAYS, Numbers, in_flat, rank, row_kinds, small_rows, weigh

# Tables whose rows are a whole space, some number of times; flats of some of their rows have known common rows.
BASES = {
    2: [[[1, 0], [0, 1]], [[2, 3], [-1, 4]]],
    3: [[[1, 0, 0], [0, 1, 0], [0, 0, 1]], [[2, 1, 0], [0, -3, 5], [7, 1, 1]]],
    4: [[[1, 2, 3, 4], [0, 2, -1, 5], [3, 3, 0, 1], [1, -1, 1, 6]]],
    5: [[[1, 2, 3, 4, 5], [0, 2, -1, 5, 1], [3, 3, 0, 1, -2], [1, -1, 1, 6, 0], [0, 0, 7, 0, 1]]],
}


def fields(flat):
    return (flat.many, flat.rows)


def subsets(many):
    return [chosen for size in range(many + 1) for chosen in itertools.combinations(range(many), size)]


def flats(seed, bound, each=3):
    """Flats of all sizes in 1 to 5 ways."""
    numbers = Numbers(seed)
    return [flat_of(many, numbers.rows(many, count, bound))
            for many in WAYS for count in range(many + 1) for _ in range(each)]


class KnownCommonRows(unittest.TestCase):

    def test_join_and_meet_of_some_rows_of_a_base(self):
        for many, bases in BASES.items():
            for base in bases:
                chosen = {which: flat_of(many, [base[place] for place in which]) for which in subsets(many)}
                for one, other in itertools.product(chosen, repeat=2):
                    with self.subTest(many=many, base=base, one=one, other=other):
                        common = chosen[tuple(sorted(set(one) & set(other)))]
                        both = chosen[tuple(sorted(set(one) | set(other)))]
                        self.assertEqual(fields(meet(chosen[one], chosen[other])), fields(common))
                        self.assertEqual(fields(join(chosen[one], chosen[other])), fields(both))

    def test_two_sheets_in_a_room(self):
        one, other = flat_of(3, [[1, 0, 0], [0, 1, 0]]), flat_of(3, [[0, 2, 4], [2, 0, 0]])
        told = meet(one, other)
        self.assertIs(type(told), Flat)
        self.assertEqual(fields(told), (3, [[1, 0, 0]]))
        self.assertEqual(fields(join(one, other)), (3, [[1, 0, 0], [0, 1, 0], [0, 0, 1]]))

    def test_square_of_a_line(self):
        self.assertEqual(fields(square(flat_of(3, [[1, 1, 1]]))), (3, [[1, 0, -1], [0, 1, -1]]))
        self.assertEqual(fields(square(flat_of(2, [[2, 3]]))), (2, [[3, -2]]))


class Laws(unittest.TestCase):

    def each(self):
        return flats(9, 4) + flats(91, NINES, 1)

    def couples(self):
        for many in WAYS:
            numbers = Numbers(92 + many)
            for one, other in itertools.product(range(many + 1), repeat=2):
                for bound in (1, 5, NINES):
                    rows = numbers.rows(many, one, bound)
                    # A row of the first one in the other one makes for meets that are not nothing.
                    more = rows[:numbers.number(0, 1)] + numbers.rows(many, other, bound)
                    yield rows, more, flat_of(many, rows), flat_of(many, more)

    def test_with_itself(self):
        for flat in self.each():
            self.assertEqual(fields(join(flat, flat)), fields(flat))
            self.assertEqual(fields(meet(flat, flat)), fields(flat))

    def test_with_nothing(self):
        for flat in self.each():
            nothing = flat_of(flat.many, [])
            for one, other in ((flat, nothing), (nothing, flat)):
                self.assertEqual(fields(join(one, other)), fields(flat))
                self.assertEqual(fields(meet(one, other)), (flat.many, []))

    def test_with_the_whole_space(self):
        for flat in self.each():
            whole = flat_of(flat.many, [[int(way == place) for way in range(flat.many)] for place in range(flat.many)])
            for one, other in ((flat, whole), (whole, flat)):
                self.assertEqual(fields(join(one, other)), fields(whole))
                self.assertEqual(fields(meet(one, other)), fields(flat))

    def test_exchanged(self):
        for rows, more, one, other in self.couples():
            self.assertEqual(fields(join(one, other)), fields(join(other, one)))
            self.assertEqual(fields(meet(one, other)), fields(meet(other, one)))

    def test_join_is_the_flat_of_all_rows(self):
        for rows, more, one, other in self.couples():
            self.assertEqual(fields(join(one, other)), fields(flat_of(one.many, rows + more)))

    def test_the_sizes_together(self):
        for rows, more, one, other in self.couples():
            with self.subTest(rows=rows, more=more):
                self.assertEqual(len(join(one, other).rows), rank(rows + more))
                self.assertEqual(len(join(one, other).rows) + len(meet(one, other).rows),
                                 len(one.rows) + len(other.rows))

    def test_meet_is_in_both(self):
        for rows, more, one, other in self.couples():
            told = meet(one, other)
            self.assertEqual(fields(flat_of(told.many, told.rows)), fields(told))
            for row in told.rows:
                self.assertIsNotNone(parts(one, row))
                self.assertIsNotNone(parts(other, row))

    def test_meet_row_by_row(self):
        numbers = Numbers(93)
        for many, bound in ((2, 4), (3, 3), (4, 1)):
            for _ in range(8):
                rows, more = numbers.rows(many, 2, 2), numbers.rows(many, many - 1, 2)
                told = meet(flat_of(many, rows), flat_of(many, more))
                for row in small_rows(many, bound):
                    self.assertEqual(parts(told, row) is not None, in_flat(rows, row) and in_flat(more, row))

    def test_square(self):
        for flat in self.each():
            told = square(flat)
            self.assertIs(type(told), Flat)
            row_kinds(self, told.rows, flat.many)
            self.assertEqual((told.many, len(told.rows)), (flat.many, flat.many - len(flat.rows)))
            self.assertEqual([weigh(one, other) for one in told.rows for other in flat.rows],
                             [0] * (len(told.rows) * len(flat.rows)))
            self.assertEqual(fields(flat_of(told.many, told.rows)), fields(told))
            self.assertEqual(fields(square(told)), fields(flat))

    def test_square_of_nothing_and_of_the_whole_space(self):
        for many in WAYS:
            ones = [[int(way == place) for way in range(many)] for place in range(many)]
            self.assertEqual(fields(square(flat_of(many, []))), (many, ones))
            self.assertEqual(fields(square(flat_of(many, ones))), (many, []))

    def test_square_exchanges_join_and_meet(self):
        for rows, more, one, other in self.couples():
            self.assertEqual(fields(square(join(one, other))), fields(meet(square(one), square(other))))

    def test_what_was_told_handed_in_again(self):
        numbers = Numbers(94)
        flat = flat_of(5, numbers.rows(5, 3, RISING))
        for _ in range(3):
            other = square(join(meet(flat, flat_of(5, numbers.rows(5, 4, NINES))), flat_of(5, numbers.rows(5, 1, 9))))
            self.assertEqual(len(other.rows), 2)
            flat = join(other, flat_of(5, numbers.rows(5, 1, 9)))
            self.assertIsNone(within(other, flat))
            self.assertEqual(fields(square(square(flat))), fields(flat))


class Within(unittest.TestCase):

    def test_known(self):
        sheet = flat_of(3, [[1, 0, 0], [0, 1, 0]])
        self.assertIsNone(within(flat_of(3, [[5, 7, 0]]), sheet))
        self.assertEqual(within(flat_of(3, [[5, 7, 1]]), sheet), 0)
        self.assertEqual(within(flat_of(3, [[1, 0, 0], [0, 0, 1]]), sheet), 1)
        self.assertEqual(within(flat_of(3, [[1, 0, 0], [0, 1, 0], [0, 0, 1]]), sheet), 2)
        self.assertEqual(within(flat_of(3, [[1, 0, 1], [0, 1, 0]]), sheet), 0)
        self.assertEqual(within(sheet, flat_of(3, [])), 0)

    def test_the_first_row_that_is_not_in_the_other(self):
        for many in WAYS:
            numbers = Numbers(95 + many)
            for one, other in itertools.product(range(many + 1), repeat=2):
                for _ in range(6):
                    first = flat_of(many, numbers.rows(many, one, 1))
                    rows = numbers.rows(many, other, 1)
                    wanted = next((place for place, row in enumerate(first.rows) if not in_flat(rows, row)), None)
                    self.assertEqual(within(first, flat_of(many, rows)), wanted)

    def test_none_and_nothing_else(self):
        for flat in flats(96, 3):
            nothing = flat_of(flat.many, [])
            self.assertIsNone(within(flat, flat))
            self.assertIsNone(within(nothing, flat))
            self.assertIsNone(within(nothing, nothing))
            self.assertIsNone(within(flat, square(nothing)))
            self.assertIsNone(within(meet(flat, flat), join(flat, nothing)))


if __name__ == "__main__":
    unittest.main()
