"""Promises [2], [3] and [5]: plus, less, times and weighed."""

import unittest

from flatmeet.errors import NotAlike
from flatmeet.rows import less, plus, times, weighed

# Sixty figures, the greatest and some whose low figures a float would lose.
NINES = 999999999999999999999999999999999999999999999999999999999999
RISING = 123456789012345678901234567890123456789012345678901234567890

PAIRED = (plus, less, weighed)
UNLIKE = [
    ([1], [1, 2]),
    ([1, 2], [1]),
    ([], [1]),
    ([1], []),
    ([], [0]),
    ([0], []),
    ([0, 0], [0, 0, 0]),
    ([1, 2, 3, 4], [1, 2, 3, 4, 5]),
    ([1, 2, 3, 4, 5], [1, 2, 3, 4]),
    ([1] * 12, [1] * 11),
    ([1], [1] * 12),
    ([NINES], [NINES, -NINES]),
]
# one, other, sum, difference, weight
ORDINARY = [
    ([7], [5], [12], [2], 35),
    ([-7], [5], [-2], [-12], -35),
    ([1, 2], [3, -4], [4, -2], [-2, 6], -5),
    ([1, 0, -2], [3, 4, 5], [4, 4, 3], [-2, -4, -7], -7),
    ([-1, -2, -3], [-4, -5, -6], [-5, -7, -9], [3, 3, 3], 32),
    ([1, 2, 3, 4], [5, 6, 7, 8], [6, 8, 10, 12], [-4, -4, -4, -4], 70),
    ([1, -1, 2, -2, 3], [10, 20, -30, -40, 0], [11, 19, -28, -42, 3], [-9, -21, 32, 38, 3], 10 - 20 - 60 + 80),
    ([0, 0, 0], [4, -5, 6], [4, -5, 6], [-4, 5, -6], 0),
    ([4, -5, 6], [0, 0, 0], [4, -5, 6], [4, -5, 6], 0),
    ([0, 0], [0, 0], [0, 0], [0, 0], 0),
]


class Rows(unittest.TestCase):

    def tells(self, told, wanted):
        """The value and its kind: 1 and 1.0 and True are like one another, but not of one kind."""
        self.assertEqual(told, wanted)
        self.assertIs(type(told), type(wanted))
        if isinstance(told, list):
            self.assertEqual({type(number) for number in told} - {int}, set())


class Ordinary(Rows):

    def test_plus(self):
        for one, other, total, apart, weight in ORDINARY:
            self.tells(plus(one, other), total)
            self.tells(plus(other, one), total)

    def test_less(self):
        for one, other, total, apart, weight in ORDINARY:
            self.tells(less(one, other), apart)
            self.tells(less(other, one), [-number for number in apart])

    def test_weighed(self):
        for one, other, total, apart, weight in ORDINARY:
            self.tells(weighed(one, other), weight)
            self.tells(weighed(other, one), weight)

    def test_times(self):
        row = [1, 0, -2, 5, -7]
        self.tells(times(row, 0), [0, 0, 0, 0, 0])
        self.tells(times(row, 1), [1, 0, -2, 5, -7])
        self.tells(times(row, -1), [-1, 0, 2, -5, 7])
        self.tells(times(row, 3), [3, 0, -6, 15, -21])
        self.tells(times(row, -3), [-3, 0, 6, -15, 21])
        self.tells(times([6], -7), [-42])
        self.tells(times([3, -4], 2), [6, -8])

    def test_rows_that_stand_square(self):
        for one, other in [([1, 0], [0, 1]), ([1, 2], [-2, 1]), ([1, 2, 3], [3, 0, -1]), ([1, 1, 1, 1], [1, -1, 1, -1]),
                           ([2, 3, 5, 7, 11], [3, -2, 7, -5, 0])]:
            self.tells(weighed(one, other), 0)

    def test_arguments_go_by_the_names_of_the_interface(self):
        self.tells(plus(one=[1], other=[2]), [3])
        self.tells(less(one=[1], other=[2]), [-1])
        self.tells(times(row=[3], many=2), [6])
        self.tells(weighed(one=[3], other=[2]), 6)


class Edges(Rows):

    def test_empty_rows(self):
        self.tells(plus([], []), [])
        self.tells(less([], []), [])
        self.tells(weighed([], []), 0)
        for many in (0, 1, -1, NINES):
            self.tells(times([], many), [])

    def test_rows_of_twelve(self):
        one = [1, 2, 3, 4, 5, 6, 7, 8, 9, 10, 11, 12]
        other = [12, -11, 10, -9, 8, -7, 6, -5, 4, -3, 2, -1]
        self.tells(plus(one, other), [13, -9, 13, -5, 13, -1, 13, 3, 13, 7, 13, 11])
        self.tells(less(one, other), [-11, 13, -7, 13, -3, 13, 1, 13, 5, 13, 9, 13])
        self.tells(times(one, -2), [-2, -4, -6, -8, -10, -12, -14, -16, -18, -20, -22, -24])
        self.tells(weighed(one, one), 650)
        self.tells(weighed(one, other), 12 - 22 + 30 - 36 + 40 - 42 + 42 - 40 + 36 - 30 + 22 - 12)

    def test_sixty_figures_added(self):
        self.tells(plus([NINES, -NINES], [1, -1]), [10 ** 60, -10 ** 60])
        self.tells(plus([NINES, RISING], [-NINES, 1]), [0, RISING + 1])
        self.tells(less([NINES, -NINES], [NINES - 1, NINES]),
                   [1, -1999999999999999999999999999999999999999999999999999999999998])
        self.tells(less([RISING], [RISING - 7]), [7])

    def test_sixty_figures_multiplied(self):
        square_of_nines = 10 ** 120 - 2 * 10 ** 60 + 1
        self.tells(times([NINES, -NINES, 1, 0], NINES), [square_of_nines, -square_of_nines, NINES, 0])
        self.tells(times([RISING, 1], -10 ** 59), [int("-" + str(RISING) + "0" * 59), -10 ** 59])
        self.tells(weighed([NINES, 1], [NINES, 1]), square_of_nines + 1)
        self.tells(weighed([NINES, NINES, 1], [RISING, -RISING, 1]), 1)
        self.tells(weighed([NINES] * 12, [-NINES] * 12), -12 * square_of_nines)

    def test_the_row_of_noughts(self):
        for many in (0, 1, -5, NINES):
            self.tells(times([0, 0, 0], many), [0, 0, 0])
        self.tells(weighed([0, 0, 0], [NINES, -NINES, RISING]), 0)

    def test_one_row_handed_in_twice(self):
        for row in ([], [0, 0], [3, -4], [NINES, -RISING, 2]):
            self.tells(plus(row, row), [2 * number for number in row])
            self.tells(less(row, row), [0 for number in row])
            self.tells(weighed(row, row), sum(number ** 2 for number in row))

    def test_what_was_told_may_be_handed_in_again(self):
        row = [NINES, -RISING]
        for power in range(2, 9):
            row = times(row, NINES)
            self.tells(row, [NINES ** power, -RISING * NINES ** (power - 1)])
        self.tells(less(plus(row, [1, 2]), row), [1, 2])


class Refused(Rows):

    def test_unlike_lengths(self):
        for function in PAIRED:
            for one, other in UNLIKE:
                with self.subTest(function=function.__name__, one=one, other=other):
                    with self.assertRaises(NotAlike) as caught:
                        function(one, other)
                    self.assertIs(type(caught.exception), NotAlike)

    def test_the_rows_stay_as_they_were(self):
        for function in PAIRED:
            for one, other in UNLIKE:
                one, other = list(one), list(other)
                before = (list(one), list(other))
                with self.assertRaises(NotAlike):
                    function(one, other)
                self.assertEqual((one, other), before)

    def test_later_answers_are_as_ever(self):
        one, other = [1, 2, 3], [4, 5]
        for function in PAIRED:
            with self.assertRaises(NotAlike):
                function(one, other)
            self.tells(plus(one, [1, 1, 1]), [2, 3, 4])
            self.tells(less(other, [1, 1]), [3, 4])
            self.tells(times(one, 2), [2, 4, 6])
            self.tells(weighed(other, other), 41)
            with self.assertRaises(NotAlike):
                function(other, one)


class OneOwn(Rows):
    """What is told is the asker's own, and what is handed in is left alone."""

    HANDED = [[], [0], [0, 0, 0], [3, -4], [1, 0, -2, 5, NINES], list(range(-6, 6))]

    def asked(self):
        """Each way to ask for a list: a function of a row, fresh at each call."""
        return {
            "plus": lambda row: plus(row, [1] * len(row)),
            "plus, behind": lambda row: plus([1] * len(row), row),
            "plus of noughts": lambda row: plus(row, [0] * len(row)),
            "noughts, plus": lambda row: plus([0] * len(row), row),
            "plus twice": lambda row: plus(row, row),
            "less": lambda row: less(row, [1] * len(row)),
            "less, behind": lambda row: less([1] * len(row), row),
            "less of noughts": lambda row: less(row, [0] * len(row)),
            "less twice": lambda row: less(row, row),
            "times 0": lambda row: times(row, 0),
            "times 1": lambda row: times(row, 1),
            "times -1": lambda row: times(row, -1),
            "times 7": lambda row: times(row, 7),
        }

    def each(self):
        return [(f"{name} of {handed}", ask, list(handed)) for name, ask in self.asked().items()
                for handed in self.HANDED]

    def test_what_is_handed_in_stays(self):
        for note, ask, row in self.each():
            with self.subTest(note):
                before = list(row)
                ask(row)
                weighed(row, row)
                self.assertEqual(row, before)

    def test_both_rows_handed_in_stay(self):
        for function in PAIRED:
            one, other = [1, -2, 3], [4, 5, -6]
            function(one, other)
            self.assertEqual((one, other), ([1, -2, 3], [4, 5, -6]))

    def test_changing_what_was_told_changes_nothing(self):
        for note, ask, row in self.each():
            with self.subTest(note):
                before = list(row)
                told = ask(row)
                wanted = list(told)
                told.append(99)
                told[0] = 77
                self.assertEqual(row, before)
                self.tells(ask(row), wanted)

    def test_changing_what_was_handed_in_changes_nothing_told(self):
        for note, ask, row in self.each():
            with self.subTest(note):
                told = ask(row)
                wanted = list(told)
                row.append(99)
                row[0] = 77
                self.assertEqual(told, wanted)

    def test_two_askers_share_nothing(self):
        for note, ask, row in self.each():
            with self.subTest(note):
                first, second = ask(row), ask(row)
                wanted = list(second)
                first.clear()
                self.assertEqual(second, wanted)


if __name__ == "__main__":
    unittest.main()
