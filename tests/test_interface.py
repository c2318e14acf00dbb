"""The names of the interface, and the numbers of the bounds."""

import unittest

from canpath import bounds, counting, gardens, limits, more, plots, shells, taps, texts, trips, values, ways
from tests.makers import S


class Interface(unittest.TestCase):
    def test_bounds(self):
        told = {
            "LIMIT": 1000000000000000000, "MAX_PLACE": 1000000, "MAX_CAN": 1000000, "MAX_LITRES": 1000000000,
            "MAX_BEDS": 12, "MAX_ROWS": 50, "SMALL": 6, "MAX_EDITS": 60, "BATCH": 20,
        }
        for name, number in told.items():
            with self.subTest(name=name):
                self.assertIs(type(getattr(bounds, name)), int)
                self.assertEqual(getattr(bounds, name), number)

    def test_functions_are_defined_in_their_files(self):
        listed = (
            (gardens, ("is_garden", "garden_error", "stretches_of")),
            (trips, ("is_trip", "way_of_trip", "is_plan", "way_of", "trips_of")),
            (ways, ("least_way", "fewest_trips", "best_plan", "certificate", "certificate_holds")),
            (counting, ("count_plans", "count_best", "each_plan")),
            (values, ("Load", "Walker")),
            (limits, ("Bound",)),
            (texts, ("garden_text", "parse_garden")),
            (more, ("extra_way", "free_litres", "least_can")),
            (taps, ("way_at", "best_taps", "better_tap")),
            (plots, ("Plot", "BoundedPlot")),
            (shells, ("Shell",)),
        )
        for module, names in listed:
            for name in names:
                with self.subTest(name=name):
                    self.assertEqual(getattr(module, name).__module__, module.__name__)

    def test_methods_are_defined_in_their_classes(self):
        listed = (
            (values.Load, ("__getitem__", "__add__", "__sub__", "__contains__", "__len__", "__str__", "__eq__")),
            (values.Walker, ("__call__",)),
            (limits.Bound, ("room",)),
            (plots.Plot, ("MOST_EDITS", "want", "move", "fill", "undo", "attempt", "state", "certificate", "walk",
                          "edits", "read", "__len__", "__str__", "__eq__")),
            (shells.Shell, ("execute",)),
        )
        for made, names in listed:
            for name in names:
                with self.subTest(made=made.__name__, name=name):
                    self.assertIn(name, vars(made))

    def test_attributes_are_set_on_each_object(self):
        listed = (
            (values.Load(((1, 1),)), ("rows", "total")),
            (values.Walker(S), ("left", "way", "trips")),
            (limits.Bound(9), ("most",)),
            (plots.Plot(S), ("garden", "way", "trips")),
            (plots.BoundedPlot(S, 9), ("garden", "way", "trips", "most")),
        )
        for made, names in listed:
            for name in names:
                with self.subTest(made=made.__class__.__name__, name=name):
                    self.assertTrue(hasattr(made, name))


if __name__ == "__main__":
    unittest.main()
