"""Promise 8: the least way, the fewest trips, and a plan that has both."""

import unittest

from canpath.bounds import MAX_BEDS, MAX_CAN, MAX_LITRES, MAX_PLACE
from canpath.trips import is_plan, trips_of, way_of
from canpath.ways import best_plan, fewest_trips, least_way
from tests import plain
from tests.makers import G, S, gardens_at_the_bounds, sided_gardens

MOST_TRIPS = 100
# A can of one litre and the most litres: more trips than anybody could list one by one.
ONE_LITRE = [(tap, 1, tuple((first + step * index, MAX_LITRES) for index in range(many)))
             for many in range(MAX_BEDS + 1) for first, step in ((0, 1), (-MAX_PLACE, 7), (-5, 3))
             for tap in (-MAX_PLACE, first, first + 2, 0, MAX_PLACE)]


class LeastWays(unittest.TestCase):
    def check(self, garden, way, trips):
        before = repr(garden)
        with self.subTest(garden=garden):
            for _ in range(2):
                self.assertEqual(least_way(garden), way)
                self.assertEqual(fewest_trips(garden), trips)
            self.assertIs(type(least_way(garden)), int)
            self.assertIs(type(fewest_trips(garden)), int)
            self.assertEqual(repr(garden), before)

    def test_numbers_worked_out_by_hand(self):
        self.check(S, 8, 2)
        self.check(G, 26, 3)
        self.check((2, 2, S[2]), 4, 2)
        self.check((0, 1, S[2]), 14, 3)
        self.check((0, 3, S[2]), 6, 1)
        self.check((0, MAX_CAN, S[2]), 6, 1)
        self.check((0, 5, ((-4, 2), (0, 1), (3, 2))), 14, 1)
        self.check((0, 5, ((-4, 3), (3, 3))), 14, 2)
        self.check((0, 5, ((-4, 6), (3, 4))), 22, 2)

    def test_no_beds(self):
        for tap in (-MAX_PLACE, 0, MAX_PLACE):
            for can in (1, MAX_CAN):
                self.check((tap, can, ()), 0, 0)

    def test_a_bed_at_the_tap_costs_trips_but_no_way(self):
        self.check((7, 3, ((7, 1),)), 0, 1)
        self.check((7, 3, ((7, 3),)), 0, 1)
        self.check((7, 3, ((7, 4),)), 0, 2)
        self.check((7, 1, ((7, MAX_LITRES),)), 0, MAX_LITRES)
        self.check((3, 2, S[2]), 4, 2)

    def test_litres_around_the_can(self):
        for can in (1, 2, 3, 10, 999, MAX_CAN):
            for full in (1, 2, 3, 100):
                self.check((0, can, ((4, can * full),)), 8 * full, full)
                self.check((0, can, ((-4, can * full + 1),)), 8 * full + 8, full + 1)
                if can > 1:
                    self.check((0, can, ((4, can * full - 1),)), 8 * full, full)

    def test_few_litres_one_by_one(self):
        for garden in sided_gardens(8, each=6, litres=("few",)):
            self.check(garden, plain.way_litre_by_litre(garden), plain.trips_litre_by_litre(garden))

    def test_all_litres(self):
        for garden in sided_gardens(80):
            self.check(garden, plain.least_way(garden), plain.fewest_trips(garden))

    def test_at_the_bounds(self):
        for garden in gardens_at_the_bounds():
            self.check(garden, plain.least_way(garden), plain.fewest_trips(garden))
        far = (-MAX_PLACE, 1, ((MAX_PLACE, MAX_LITRES),))
        self.check(far, 4 * MAX_PLACE * MAX_LITRES, MAX_LITRES)

    def test_one_litre_in_the_can(self):
        for garden in ONE_LITRE:
            way = sum(2 * abs(place - garden[0]) * litres for place, litres in garden[2])
            self.check(garden, way, MAX_LITRES * len(garden[2]))

    def test_the_other_count_is_right_itself(self):
        for garden in sided_gardens(88, litres=("few",)):
            self.assertEqual(plain.least_way(garden), plain.way_litre_by_litre(garden))
            self.assertEqual(plain.fewest_trips(garden), plain.trips_litre_by_litre(garden))


class BestPlans(unittest.TestCase):
    """Promise 2 (b) too: one plan has both."""

    def check(self, garden):
        before = repr(garden)
        with self.subTest(garden=garden):
            plan = best_plan(garden)
            self.assertIs(is_plan(garden, plan), True)
            self.assertTrue(plain.is_plan(garden, plan))
            self.assertEqual(way_of(garden, plan), least_way(garden))
            self.assertEqual(plain.way_of(garden, plan), plain.least_way(garden))
            self.assertEqual(trips_of(garden, plan), fewest_trips(garden))
            self.assertEqual(plain.trips_of(plan), plain.fewest_trips(garden))
            self.assertLessEqual(len(plan), MOST_TRIPS)
            # An equal garden that is not the same one.
            self.assertEqual(repr(best_plan(eval(before))), repr(plan))
            self.assertEqual(repr(best_plan(garden)), repr(plan))
            self.assertEqual(repr(garden), before)

    def test_examples(self):
        self.assertEqual(best_plan(S), ((((1, 1),), 1), (((3, 2),), 1)))
        for garden in (S, G, (2, 2, S[2]), (0, 1, ()), (4, 3, ((4, 9),))):
            self.check(garden)

    def test_no_beds(self):
        self.assertEqual(best_plan((9, 4, ())), ())

    def test_gardens_with_one_best_plan(self):
        self.assertEqual(best_plan((0, 5, ((-4, 2), (0, 1), (3, 2)))), ((((-4, 2), (0, 1), (3, 2)), 1),))
        self.assertEqual(best_plan((0, 2, ((-4, 1), (3, 1)))), ((((-4, 1), (3, 1)), 1),))
        self.assertEqual(best_plan((0, 4, ((5, 12),))), ((((5, 4),), 3),))
        self.assertEqual(best_plan((5, 4, ((5, 12),))), ((((5, 4),), 3),))

    def test_few_litres_litres_around_the_can_and_any_litres(self):
        for garden in sided_gardens(800, each=6):
            self.check(garden)

    def test_at_the_bounds(self):
        for garden in gardens_at_the_bounds():
            self.check(garden)

    def test_one_litre_in_the_can(self):
        for garden in ONE_LITRE:
            self.check(garden)
            self.assertEqual(best_plan(garden), tuple((((place, 1),), MAX_LITRES) for place, _ in garden[2]))

    def test_the_rests_of_both_sides_and_the_tap(self):
        for can in (1, 2, 3, 4, 5):
            for left in range(can + 2):
                for right in range(can + 2):
                    for here in range(can + 2):
                        beds = ((-3, left), (0, here), (4, right))
                        self.check((0, can, tuple(bed for bed in beds if bed[1] > 0)))


if __name__ == "__main__":
    unittest.main()
