"""Promise 6: trips and their ways."""

import unittest

from canpath.bounds import MAX_BEDS, MAX_CAN, MAX_LITRES, MAX_PLACE
from canpath.trips import is_trip, way_of_trip
from tests import plain
from tests.makers import G, LONG, NUMBERS, S, STRANGE, Dice, changed, some_garden, some_trip, spread_garden


class TripCase(unittest.TestCase):
    def check(self, garden, value, told):
        before = repr((garden, value))
        with self.subTest(case=before[:300]):
            self.assertIs(is_trip(garden, value), told)
            self.assertIs(is_trip(garden, value), told)
            self.assertEqual(repr((garden, value)), before)


class RightTrips(TripCase):
    def test_just_full_and_one_litre_too_much(self):
        for can in (1, 2, 3, 7, MAX_CAN):
            garden = (0, can, ((-4, 5), (0, 1), (2, MAX_LITRES)))
            for place in (-4, 0, 2):
                self.check(garden, ((place, can),), True)
                self.check(garden, ((place, can + 1),), False)
            if can > 1:
                self.check(garden, ((-4, 1), (2, can - 1)), True)
                self.check(garden, ((-4, can - 1), (2, 1)), True)
            self.check(garden, ((-4, 1), (2, can)), False)
            self.check(garden, ((-4, can), (2, 1)), False)
        twelve = (0, 12, tuple((place, 1) for place in range(12)))
        self.check(twelve, twelve[2], True)
        self.check((0, 11, twelve[2]), twelve[2], False)

    def test_more_litres_than_a_bed_wants(self):
        self.check(S, ((1, 2),), True)
        self.check((0, 9, S[2]), ((1, 4), (3, 5)), True)
        self.check((0, MAX_CAN, ((1, 1),)), ((1, MAX_CAN),), True)

    def test_trips_of_many_gardens(self):
        dice = Dice(6)
        for many in range(1, MAX_BEDS + 1):
            for _ in range(20):
                garden = some_garden(dice, many)
                self.check(garden, some_trip(dice, garden, dict(garden[2])), True)

    def test_both_ends_of_the_path(self):
        garden = spread_garden(MAX_BEDS, 0)
        self.check(garden, ((-MAX_PLACE, 1), (MAX_PLACE, 1)), True)
        self.check(garden, ((-MAX_PLACE - 1, 1),), False)
        self.check(garden, ((MAX_PLACE + 1, 1),), False)


class WrongTrips(TripCase):
    def test_no_row(self):
        for garden in (S, G, (0, 1, ())):
            self.check(garden, (), False)

    def test_a_bed_twice(self):
        self.check(S, ((1, 1), (1, 1)), False)
        self.check((0, 9, S[2]), ((1, 1), (1, 2)), False)
        self.check((0, 9, S[2]), ((1, 1), (3, 1), (3, 2)), False)

    def test_places_without_a_bed(self):
        for place in (0, 2, 4, -1, MAX_PLACE, LONG):
            self.check(S, ((place, 1),), False)
        self.check(S, ((0, 1), (3, 1)), False)
        self.check(S, ((1, 1), (2, 1)), False)
        self.check((0, 1, ()), ((0, 1),), False)
        # The tap alone makes no bed, but a bed may be there.
        self.check((2, 2, S[2]), ((2, 1),), False)
        self.check((3, 2, S[2]), ((3, 1),), True)

    def test_places_that_fall(self):
        self.check(S, ((3, 1), (1, 1)), False)
        self.check(G, ((2, 1), (6, 1), (5, 1)), False)
        self.check(G, ((5, 1), (2, 1), (6, 1)), False)
        self.check(G, ((2, 1), (5, 1), (6, 1)), True)

    def test_litres_below_one(self):
        for litres in (0, -1, -LONG):
            self.check(S, ((1, litres),), False)
            self.check(S, ((1, litres), (3, 1)), False)
            self.check(S, ((1, 1), (3, litres)), False)

    def test_rows_of_other_lengths(self):
        for row in ((), (1,), (1, 1, 1), ((1, 1),)):
            self.check(S, (row,), False)
        self.check(S, (1, 1), False)
        self.check(S, ((1, 1), 1), False)

    def test_lists(self):
        for value in ([(1, 1)], ([1, 1],), [[1, 1]], ((1, 1), [3, 1]), [(1, 1), (3, 1)]):
            self.check(S, value, False)

    def test_values_of_other_kinds(self):
        for value in STRANGE + NUMBERS:
            self.check(S, value, False)
            self.check(S, (value,), False)
            self.check(S, ((1, 1), value), False)
        for value in STRANGE:
            self.check(S, ((value, 1),), False)
            self.check(S, ((1, value),), False)

    def test_true_is_not_one(self):
        garden = (0, 2, ((0, 1), (1, 1)))
        for one in (1, True, 1):
            self.check(garden, ((one, 1),), one is not True)
            self.check(garden, ((1, one),), one is not True)
            self.check(garden, ((0, 1), (1, one)), one is not True)
        for zero in (0, False, 0):
            self.check(garden, ((zero, 1),), zero is not False)
            self.check(garden, ((1, zero),), False)

    def test_one_change_at_any_depth(self):
        dice = Dice(66)
        others = (None, True, False, "a", [], (), (1, 1), 0, 1, -1, 2, MAX_CAN, LONG)
        cases = [(S, ((1, 1), (3, 1))), (G, ((2, 1), (5, 1), (6, 1)))]
        for many in range(1, MAX_BEDS + 1):
            garden = some_garden(dice, many)
            cases.append((garden, some_trip(dice, garden, dict(garden[2]))))
        for garden, trip in cases:
            for value in changed(trip, others):
                self.check(garden, value, plain.is_trip(garden, value))


class Ways(unittest.TestCase):
    def check(self, garden, trip, way):
        with self.subTest(garden=garden, trip=trip):
            found = way_of_trip(garden, trip)
            self.assertEqual(found, way)
            self.assertIs(type(found), int)
            self.assertEqual(way_of_trip(garden, trip), way)

    def test_one_side_and_both_sides(self):
        beds = ((-5, 9), (-2, 9), (0, 9), (3, 9), (7, 9))
        for trip, way in (
            (((-5, 1),), 10), (((-2, 1),), 4), (((-5, 1), (-2, 1)), 10), (((3, 1),), 6), (((3, 1), (7, 1)), 14),
            (((-2, 1), (3, 1)), 10), (((-5, 1), (7, 1)), 24), (((-5, 1), (-2, 1), (0, 1), (3, 1), (7, 1)), 24),
            (((0, 1),), 0), (((-2, 1), (0, 1)), 4), (((0, 1), (3, 1)), 6),
        ):
            self.check((0, 9, beds), trip, way)

    def test_tap_at_between_and_beside_the_beds(self):
        trip = ((1, 1), (3, 1))
        for tap, way in ((-1, 8), (0, 6), (1, 4), (2, 4), (3, 4), (4, 6), (9, 16)):
            self.check((tap, 2, S[2]), trip, way)

    def test_a_bed_at_the_tap(self):
        for tap in (-MAX_PLACE, -3, 0, 5, MAX_PLACE):
            self.check((tap, 2, ((tap, 1),)), ((tap, 2),), 0)

    def test_both_ends_of_the_path(self):
        trip = ((-MAX_PLACE, 1), (MAX_PLACE, 1))
        for tap in (-MAX_PLACE, 0, MAX_PLACE):
            self.check(spread_garden(MAX_BEDS, tap), trip, 4 * MAX_PLACE)
        self.check(spread_garden(2, MAX_PLACE), ((-MAX_PLACE, 1),), 4 * MAX_PLACE)

    def test_litres_do_not_count(self):
        self.check((0, 9, S[2]), ((3, 1),), 6)
        self.check((0, 9, S[2]), ((3, 9),), 6)

    def test_trips_of_many_gardens(self):
        dice = Dice(666)
        for many in range(1, MAX_BEDS + 1):
            for _ in range(30):
                garden = some_garden(dice, many)
                trip = some_trip(dice, garden, dict(garden[2]))
                self.check(garden, trip, plain.way_of_trip(garden, trip))


if __name__ == "__main__":
    unittest.main()
