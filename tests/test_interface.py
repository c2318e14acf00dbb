"""The names of the interface, and the numbers of the bounds."""

import unittest

from canpath import bounds, counting, gardens, trips, ways


class Interface(unittest.TestCase):
    def test_bounds(self):
        told = {
            "LIMIT": 1000000000000000000, "MAX_PLACE": 1000000, "MAX_CAN": 1000000, "MAX_LITRES": 1000000000,
            "MAX_BEDS": 12, "MAX_ROWS": 50, "SMALL": 6, "MAX_EDITS": 60, "BATCH": 20,
        }
        for name, number in told.items():
            with self.subTest(name=name):
                self.assertIs(type(getattr(bounds, name)), int)
                self.assertEqual(getattr(bounds, name), number)

    def test_functions_are_defined_in_their_files(self):
        listed = (
            (gardens, ("is_garden", "garden_error", "stretches_of")),
            (trips, ("is_trip", "way_of_trip", "is_plan", "way_of", "trips_of")),
            (ways, ("least_way", "fewest_trips", "best_plan", "certificate", "certificate_holds")),
            (counting, ("count_plans", "count_best", "each_plan")),
        )
        for module, names in listed:
            for name in names:
                with self.subTest(name=name):
                    self.assertEqual(getattr(module, name).__module__, module.__name__)


if __name__ == "__main__":
    unittest.main()
