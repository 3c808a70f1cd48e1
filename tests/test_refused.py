"""Promise [4], and the refusals of each point: class, fields, order, and that nothing is changed."""

import unittest

from asks import ASKS, fresh, frozen, refused
from flatmeet.errors import FlatError


class Refused(unittest.TestCase):

    def test_by_class_and_fields(self):
        for function, handed, kind, fields in refused():
            with self.subTest(function=function.__name__, handed=frozen(handed)):
                with self.assertRaises(FlatError) as caught:
                    function(*fresh(handed))
                self.assertIs(type(caught.exception), kind)
                self.assertEqual(frozen(tuple(sorted(vars(caught.exception).items()))),
                                 frozen(tuple(sorted(fields.items()))))

    def test_what_is_handed_in_stays(self):
        for function, handed, kind, fields in refused():
            handed = fresh(handed)
            before = frozen(handed)
            with self.assertRaises(kind):
                function(*handed)
            self.assertEqual(frozen(handed), before)

    def test_what_is_asked_behind_is_answered_as_ever(self):
        wanted = [frozen(function(*fresh(handed))) for function, handed in ASKS]
        seen = {}
        for function, handed, kind, fields in refused():
            if seen.setdefault((function, kind), 0) < 3:
                seen[(function, kind)] += 1
                with self.assertRaises(kind):
                    function(*fresh(handed))
                self.assertEqual([frozen(ask(*fresh(given))) for ask, given in ASKS], wanted)

    def test_one_refusal_leaves_another_alone(self):
        caught = []
        for function, handed, kind, fields in refused():
            try:
                function(*fresh(handed))
            except FlatError as refusal:
                caught.append((refusal, fields))
        for refusal, fields in caught:
            self.assertEqual(vars(refusal), fields)


if __name__ == "__main__":
    unittest.main()
