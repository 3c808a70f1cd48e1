"""The interface: each name, its arguments, and that they may be handed in by name."""

import importlib
import inspect
import unittest

from asks import ASKS

INTERFACE = {
    "rows": {"plus": "one other", "less": "one other", "times": "row many", "weighed": "one other"},
    "flats": {"flat_of": "many rows", "paper": "many rows", "mirror": "flat", "parts": "flat row"},
    "meeting": {"join": "one other", "meet": "one other", "square": "flat", "within": "one other"},
    "sums": {"made": "many size terms", "added": "one other", "taken": "some many", "product": "one other",
             "box_of": "many rows"},
    "single": {"spanned": "many size some", "broken": "many size some"},
    "boxes": {"box": "flat", "flat_of_box": "many size some"},
    "hooks": {"hooked": "row some", "turned_over": "many some", "weighed_sums": "one other"},
    "crossing": {"crossed": "many one other"},
    "moves": {"moved": "table row", "moved_sum": "table some", "determinant": "table", "behind": "one other",
              "lesser": "table size", "turned_back": "table"},
    "equations": {"answer": "many rows ends", "bar": "many rows ends", "idle": "many rows"},
    "dropping": {"dropped": "flat row", "apart": "flat row"},
    "texts": {"rows_text": "rows", "sum_text": "some"},
}


class Interface(unittest.TestCase):

    def test_names_and_arguments(self):
        for module, functions in INTERFACE.items():
            for name, wanted in functions.items():
                with self.subTest(module=module, name=name):
                    function = getattr(importlib.import_module("flatmeet." + module), name)
                    self.assertTrue(inspect.isfunction(function))
                    found = inspect.signature(function).parameters.values()
                    self.assertEqual([part.name for part in found], wanted.split())
                    self.assertEqual({(part.kind, part.default) for part in found},
                                     {(inspect.Parameter.POSITIONAL_OR_KEYWORD, inspect.Parameter.empty)})

    def test_flat_is_a_class_of_flats(self):
        flats = importlib.import_module("flatmeet.flats")
        self.assertTrue(inspect.isclass(flats.Flat))
        self.assertEqual(flats.Flat.__module__, "flatmeet.flats")

    def test_desk_is_a_class_of_desk(self):
        desk = importlib.import_module("flatmeet.desk")
        self.assertTrue(inspect.isclass(desk.Desk))
        self.assertEqual(list(inspect.signature(desk.Desk).parameters), [])
        self.assertEqual(list(inspect.signature(desk.Desk().tell).parameters), ["line"])

    def test_each_function_is_asked_in_the_tests_of_what_stays(self):
        wanted = {name for functions in INTERFACE.values() for name in functions}
        self.assertEqual({function.__name__ for function, handed in ASKS}, wanted)


if __name__ == "__main__":
    unittest.main()
