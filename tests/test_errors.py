"""Promise [4]: the classes of the refusals and their fields."""

import unittest

from flatmeet import errors
from flatmeet.rows import less, plus, weighed

PLAIN = ["NotAlike", "BadCount", "BadRow", "OtherSpace", "BadSize", "BadPlaces", "ZeroSum", "BadTable",
         "NoLine", "BadName", "NoRow", "NoName"]
WITH_FIELDS = ["BadRows", "NoBox"]
OTHERS = [getattr(errors, name) for name in PLAIN + WITH_FIELDS]


class Standing(unittest.TestCase):

    def test_there_are_fourteen_besides_flat_error(self):
        self.assertEqual(len(set(OTHERS)), 14)

    def test_flat_error_stands_straight_beneath_value_error(self):
        self.assertEqual(errors.FlatError.__bases__, (ValueError,))

    def test_each_other_one_stands_straight_beneath_flat_error(self):
        for refusal in OTHERS:
            with self.subTest(refusal=refusal.__name__):
                self.assertEqual(refusal.__bases__, (errors.FlatError,))

    def test_none_stands_beneath_another_one(self):
        for one in OTHERS:
            for other in OTHERS:
                with self.subTest(one=one.__name__, other=other.__name__):
                    self.assertEqual(issubclass(one, other), one is other)

    def test_each_goes_by_its_name_and_lies_in_errors(self):
        for name in PLAIN + WITH_FIELDS + ["FlatError"]:
            with self.subTest(name=name):
                refusal = getattr(errors, name)
                self.assertEqual((refusal.__name__, refusal.__module__), (name, "flatmeet.errors"))


class Fields(unittest.TestCase):

    def test_bad_rows_has_its_place(self):
        for place in (0, 1, 11):
            refusal = errors.BadRows(place)
            self.assertEqual(vars(refusal), {"place": place})

    def test_no_box_has_left_and_right(self):
        for left, right in [((), (0, 1)), ((0,), (1, 2, 3)), ((3, 4), (0, 1, 2, 4))]:
            refusal = errors.NoBox(left, right)
            self.assertEqual(vars(refusal), {"left": left, "right": right})
            self.assertIs(type(refusal.left), tuple)
            self.assertIs(type(refusal.right), tuple)

    def test_fields_of_two_refusals_are_apart(self):
        one, other = errors.BadRows(1), errors.BadRows(2)
        self.assertEqual((one.place, other.place), (1, 2))

    def test_all_others_have_no_fields(self):
        for name in PLAIN + ["FlatError"]:
            with self.subTest(name=name):
                self.assertEqual(vars(getattr(errors, name)()), {})

    def test_raised_ones_keep_their_fields(self):
        with self.assertRaises(errors.FlatError) as caught:
            raise errors.NoBox((0,), (1, 2, 3))
        self.assertEqual((caught.exception.left, caught.exception.right), ((0,), (1, 2, 3)))
        with self.assertRaises(ValueError) as caught:
            raise errors.BadRows(4)
        self.assertEqual(caught.exception.place, 4)


class Handlers(unittest.TestCase):

    def taken_by(self, handler, function):
        try:
            function([1, 2], [1, 2, 3])
        except handler:
            return True
        except Exception:
            return False
        self.fail("nothing was refused")

    def test_who_takes_the_refusal_of_unlike_rows(self):
        for function in (plus, less, weighed):
            with self.subTest(function=function.__name__):
                self.assertTrue(self.taken_by(ValueError, function))
                self.assertTrue(self.taken_by(errors.FlatError, function))
                for refusal in OTHERS:
                    self.assertEqual(self.taken_by(refusal, function), refusal is errors.NotAlike)


if __name__ == "__main__":
    unittest.main()
