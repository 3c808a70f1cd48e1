"""Promises [6], [7] and [8]: flats, their frames, paper, mirror and parts."""

import unittest

from flatmeet.flats import Flat, flat_of, mirror, paper, parts
from given import NINES, RISING, WAYS, Numbers, det, divisor, in_flat, mix, rank, row_kinds, small_rows, weigh
from itertools import combinations

# many, rows, frame
KNOWN = [
    (1, [], []),
    (1, [[0]], []),
    (1, [[2]], [[1]]),
    (1, [[-7], [0], [5]], [[1]]),
    (2, [[2, 0], [1, 2]], [[1, 0], [0, 1]]),
    (2, [[0, -3]], [[0, 1]]),
    (2, [[-4, 6]], [[2, -3]]),
    (2, [[0, 0], [0, 0]], []),
    (3, [], []),
    (3, [[2, 4, 6], [1, 1, 1]], [[1, 0, -1], [0, 1, 2]]),
    (3, [[0, 2, 3]], [[0, 2, 3]]),
    (3, [[0, 0, -9]], [[0, 0, 1]]),
    (3, [[3, 0, 1], [0, 3, 1]], [[1, 2, 1], [0, 3, 1]]),
    (3, [[0, 3, 1], [3, 0, 1]], [[1, 2, 1], [0, 3, 1]]),
    (3, [[2, 1, 0]], [[2, 1, 0]]),
    (3, [[1, 1, 1], [2, 2, 2], [-5, -5, -5]], [[1, 1, 1]]),
    (4, [[0, 2, 0, 1], [0, 0, 0, 5]], [[0, 1, 0, 0], [0, 0, 0, 1]]),
    (4, [[2, 0, 0, 1], [0, 2, 0, 1], [0, 0, 2, 1]], [[1, 0, 1, 1], [0, 1, 1, 1], [0, 0, 2, 1]]),
    (5, [[0, 0, 0, 0, 0]], []),
    (5, [[6, 10, 15, 0, 0]], [[6, 10, 15, 0, 0]]),
    (5, [[12, 20, 30, 0, 2]], [[6, 10, 15, 0, 1]]),
]


def spread():
    """Spaces of 1 to 5 ways, of none to twelve rows, of few figures and of many."""
    numbers = Numbers(6)
    for many in WAYS:
        for count in range(13):
            yield many, numbers.rows(many, count, 3)
            yield many, numbers.rows(many, count, 40)
            yield many, numbers.hanging(many, count, 4)
            yield many, numbers.hanging(many, count, 30)
    for many in WAYS:
        for count in (1, 2, 3, 4, 5, 12):
            yield many, numbers.rows(many, count, 10 ** 50)
            yield many, numbers.hanging(many, count, NINES)
        yield many, [[NINES - way * RISING for way in range(many)], [RISING + way for way in range(many)]]


def head(row):
    return [way for way, number in enumerate(row) if number != 0][0]


def shares(frame, row):
    """How often each row of a frame makes the row, from the heads alone; None where they don't."""
    told, rest = [], list(row)
    for line in frame:
        often, left = divmod(rest[head(line)], line[head(line)])
        if left:
            return None
        rest = [one - often * other for one, other in zip(rest, line)]
        told.append(often)
    return None if any(rest) else told


class Frames(unittest.TestCase):

    def well_formed(self, many, frame):
        row_kinds(self, frame, many)
        heads = [head(row) for row in frame]
        self.assertEqual(heads, sorted(set(heads)))
        for place, row in enumerate(frame):
            self.assertGreater(row[heads[place]], 0)
            for before in frame[:place]:
                self.assertGreaterEqual(before[heads[place]], 0)
                self.assertLess(before[heads[place]], row[heads[place]])

    def nothing_left_out(self, many, frame):
        """Just where the determinants of its rows at all places have no common divisor is no whole row left out."""
        if frame:
            found = [det([[row[way] for way in places] for row in frame])
                     for places in combinations(range(many), len(frame))]
            self.assertEqual(divisor(found), 1)

    def test_known_frames(self):
        for many, rows, frame in KNOWN:
            with self.subTest(many=many, rows=rows):
                told = flat_of(many, rows)
                self.assertIs(type(told), Flat)
                self.assertEqual((told.many, told.rows), (many, frame))

    def test_only_two_fields(self):
        self.assertEqual(vars(flat_of(2, [[4, 2]])), {"many": 2, "rows": [[2, 1]]})

    def test_each_frame_is_one(self):
        for many, rows in spread():
            with self.subTest(many=many, rows=rows):
                frame = flat_of(many, rows).rows
                self.well_formed(many, frame)
                self.assertEqual(len(frame), rank(rows))
                for row in frame:
                    self.assertTrue(in_flat(rows, row))
                for row in rows:
                    self.assertIsNotNone(shares(frame, row))
                self.nothing_left_out(many, frame)

    def test_small_rows_one_by_one(self):
        numbers = Numbers(61)
        for many, bound in ((1, 6), (2, 5), (3, 3), (4, 2)):
            for count in range(many + 1):
                for _ in range(3):
                    rows = numbers.rows(many, count, 6)
                    frame = flat_of(many, rows).rows
                    for row in small_rows(many, bound):
                        with self.subTest(rows=rows, row=row):
                            self.assertEqual(shares(frame, row) is not None, in_flat(rows, row))

    def test_every_small_flat_of_two_ways(self):
        for one in small_rows(2, 4):
            for other in small_rows(2, 2):
                rows = [one, other]
                frame = flat_of(2, rows).rows
                self.well_formed(2, frame)
                self.assertEqual(len(frame), rank(rows))
                self.nothing_left_out(2, frame)
                self.assertTrue(all(in_flat(rows, row) for row in frame))

    def test_no_rows_and_rows_of_noughts(self):
        for many in WAYS:
            for count in (0, 1, 2, 12):
                told = flat_of(many, [[0] * many for _ in range(count)])
                self.assertEqual((told.many, told.rows), (many, []))

    def test_the_whole_space(self):
        for many in WAYS:
            ones = [[int(way == place) for way in range(many)] for place in range(many)]
            self.assertEqual(flat_of(many, [[7 * number for number in row] for row in ones[::-1]]).rows, ones)
            lower = [[way + 2 if way <= place else 0 for way in range(many)] for place in range(many)]
            self.assertEqual(flat_of(many, lower).rows, ones)

    def test_more_rows_than_twelve(self):
        rows = Numbers(62).hanging(4, 30, 5)
        self.assertEqual(flat_of(4, rows).rows, flat_of(4, rows[::-1]).rows)


class SameFlat(unittest.TestCase):

    def others(self, many, rows):
        """Other lists of rows with the same flat."""
        numbers = Numbers(len(rows) * 7 + many)
        yield rows[::-1]
        yield rows[1:] + rows[:1]
        for often in (-3, -2, -1, 2, 3, 4):
            yield [[often * number for number in row] for row in rows]
        yield [[(-3, -2, -1, 1, 2, 3, 4)[(place + 2) % 7] * number for number in row] for place, row in enumerate(rows)]
        if len(rows) > 1:
            yield [[one + other for one, other in zip(rows[0], rows[-1])]] + rows[1:]
            yield rows[:-1] + [[one - 5 * other for one, other in zip(rows[-1], rows[0])]]
        yield rows + [mix(many, [numbers.number(-4, 4) for _ in rows], rows)]
        yield rows + rows
        yield [[0] * many] + rows
        yield rows + [[0] * many]
        yield flat_of(many, rows).rows

    def test_the_same_frame(self):
        for many, rows in spread():
            frame = flat_of(many, rows).rows
            for other in self.others(many, rows):
                with self.subTest(many=many, rows=rows, other=other):
                    told = flat_of(many, other)
                    self.assertEqual((told.many, told.rows), (many, frame))

    def test_unlike_flats_have_unlike_frames(self):
        numbers = Numbers(63)
        for many in (2, 3, 4):
            lists = [numbers.rows(many, numbers.number(0, many), 1) for _ in range(25)]
            for one in lists:
                for other in lists:
                    like = rank(one) == rank(other) == rank(one + other)
                    self.assertEqual(flat_of(many, one).rows == flat_of(many, other).rows, like)

    def test_what_was_told_handed_in_again(self):
        rows = Numbers(64).rows(4, 3, NINES)
        for _ in range(3):
            rows = [mix(4, [NINES, -RISING, 1], rows), mix(4, [1, NINES, RISING], rows), mix(4, [RISING, 2, 3], rows)]
            told = flat_of(4, rows)
            self.assertEqual(flat_of(4, told.rows).rows, told.rows)
            rows = [[number * RISING for number in row] for row in told.rows]
            self.assertEqual(flat_of(4, rows).rows, told.rows)


class Paper(unittest.TestCase):

    def test_the_sum_as_told(self):
        for many, rows in spread():
            with self.subTest(many=many, rows=rows):
                frame = flat_of(many, rows).rows
                told = paper(many, rows)
                self.assertIs(type(told), list)
                self.assertEqual(len(told), len(frame))
                for row, entry in zip(frame, told):
                    self.assertIs(type(entry), tuple)
                    often, each = entry
                    self.assertIs(type(often), int)
                    self.assertGreaterEqual(often, 1)
                    row_kinds(self, [each], len(rows))
                    self.assertEqual([often * number for number in row], mix(many, each, rows))

    def test_of_no_rows_and_of_noughts(self):
        for many in WAYS:
            self.assertEqual(paper(many, []), [])
            self.assertEqual(paper(many, [[0] * many] * 3), [])

    def test_of_one_row(self):
        told = paper(1, [[2]])
        self.assertEqual(told[0][0], 2 * told[0][1][0])
        told = paper(3, [[0, -6, 4]])
        self.assertEqual(told[0][1][0] * -2, told[0][0])


class Mirror(unittest.TestCase):

    def test_weighs_one_and_nothing(self):
        for many, rows in spread():
            with self.subTest(many=many, rows=rows):
                flat = flat_of(many, rows)
                told = mirror(flat)
                row_kinds(self, told, many)
                self.assertEqual([[weigh(one, other) for other in flat.rows] for one in told],
                                 [[int(one == other) for other in range(len(flat.rows))]
                                  for one in range(len(flat.rows))])

    def test_of_nothing(self):
        for many in WAYS:
            self.assertEqual(mirror(flat_of(many, [])), [])

    def test_of_the_whole_space(self):
        for many in WAYS:
            ones = [[int(way == place) for way in range(many)] for place in range(many)]
            self.assertEqual(mirror(flat_of(many, ones)), ones)

    def test_frames_without_a_one(self):
        flat = flat_of(3, [[6, 10, 15]])
        self.assertEqual(weigh(mirror(flat)[0], [6, 10, 15]), 1)


class Parts(unittest.TestCase):

    def test_rows_of_the_flat(self):
        numbers = Numbers(8)
        for many, rows in spread():
            flat = flat_of(many, rows)
            for bound in (0, 1, 9, NINES):
                often = [numbers.number(-bound, bound) for _ in flat.rows]
                told = parts(flat, mix(many, often, flat.rows))
                self.assertEqual(told, often)
                row_kinds(self, [told] if told else [], len(often))
            for row in rows:
                self.assertEqual(mix(many, parts(flat, row), flat.rows), row)

    def test_rows_that_are_not_in_it(self):
        numbers = Numbers(81)
        for many, rows in spread():
            flat = flat_of(many, rows)
            for row in numbers.rows(many, 3, 5):
                with self.subTest(rows=rows, row=row):
                    if in_flat(rows, row):
                        self.assertEqual(mix(many, parts(flat, row), flat.rows), row)
                    else:
                        self.assertIsNone(parts(flat, row))

    def test_a_hair_beside_the_flat(self):
        flat = flat_of(3, [[2, 0, 1], [0, 3, 1]])
        self.assertEqual(flat.rows, [[2, 0, 1], [0, 3, 1]])
        self.assertEqual(parts(flat, [2, 3, 2]), [1, 1])
        for row in ([1, 0, 0], [2, 0, 2], [2, 1, 1], [0, 0, 1], [1, 0, 1], [2, 3, 3]):
            self.assertIsNone(parts(flat, row))

    def test_of_nothing(self):
        for many in WAYS:
            flat = flat_of(many, [])
            self.assertEqual(parts(flat, [0] * many), [])
            self.assertIsNone(parts(flat, [0] * (many - 1) + [1]))
            self.assertIsNone(parts(flat, [NINES] + [0] * (many - 1)))

    def test_the_row_of_noughts(self):
        for many, rows in spread():
            flat = flat_of(many, rows)
            self.assertEqual(parts(flat, [0] * many), [0] * len(flat.rows))

    def test_only_the_fields_are_looked_at(self):
        class Like:
            pass
        like = Like()
        like.many, like.rows = 3, [[1, 0, -1], [0, 1, 2]]
        self.assertEqual(parts(like, [1, 1, 1]), [1, 1])
        self.assertEqual([[weigh(one, other) for other in like.rows] for one in mirror(like)], [[1, 0], [0, 1]])


if __name__ == "__main__":
    unittest.main()
