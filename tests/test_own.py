"""Promise [2]: what is handed in stays, and what is told is the asker's own."""

import unittest

from asks import ASKS, fresh, frozen, scramble


class Own(unittest.TestCase):

    def each(self):
        return [(function, fresh(handed), (function.__name__, frozen(handed))) for function, handed in ASKS]

    def test_what_is_handed_in_stays(self):
        for function, handed, note in self.each():
            before = frozen(handed)
            function(*handed)
            self.assertEqual(frozen(handed), before, note)

    def test_what_was_told_may_be_changed(self):
        for function, handed, note in self.each():
            before = frozen(handed)
            told = function(*handed)
            wanted = frozen(told)
            scramble(told)
            self.assertEqual(frozen(handed), before, note)
            self.assertEqual(frozen(function(*handed)), wanted, note)

    def test_what_was_handed_in_may_be_changed_behind_the_call(self):
        for function, handed, note in self.each():
            again = fresh(handed)
            told = function(*handed)
            wanted = frozen(told)
            scramble(handed)
            self.assertEqual(frozen(told), wanted, note)
            self.assertEqual(frozen(function(*again)), wanted, note)

    def test_two_askers_share_nothing(self):
        for function, handed, note in self.each():
            first, second = function(*handed), function(*handed)
            wanted = frozen(second)
            scramble(first)
            self.assertEqual(frozen(second), wanted, note)

    def test_changing_all_that_was_told_changes_no_later_answer(self):
        told = [function(*fresh(handed)) for function, handed in ASKS]
        wanted = [frozen(value) for value in told]
        for value in told:
            scramble(value)
        self.assertEqual([frozen(function(*fresh(handed))) for function, handed in ASKS], wanted)

    def test_asking_more_changes_nothing_told(self):
        told = [function(*fresh(handed)) for function, handed in ASKS]
        wanted = [frozen(value) for value in told]
        for function, handed in ASKS[::-1]:
            function(*fresh(handed))
        self.assertEqual([frozen(value) for value in told], wanted)


if __name__ == "__main__":
    unittest.main()
