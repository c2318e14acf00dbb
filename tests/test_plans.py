"""Promise 7: plans, their ways and their numbers of trips."""

import unittest

from canpath.bounds import MAX_BEDS, MAX_CAN, MAX_LITRES, MAX_PLACE
from canpath.trips import is_plan, trips_of, way_of
from tests import plain
from tests.makers import G, LONG, NUMBERS, S, STRANGE, Dice, changed, some_garden, some_plan

P = ((((1, 1),), 1), (((3, 2),), 1))
BOTH = ((((1, 1), (3, 1)), 1), (((3, 1),), 1))
ONES = ((((1, 1),), 1), (((3, 1),), 2))


class PlanCase(unittest.TestCase):
    def check(self, garden, value, told):
        before = repr((garden, value))
        with self.subTest(case=before[:300]):
            self.assertIs(is_plan(garden, value), told)
            self.assertIs(is_plan(garden, value), told)
            self.assertEqual(repr((garden, value)), before)


class RightPlans(PlanCase):
    def test_all_plans_of_a_small_garden(self):
        for plan in (P, BOTH, ONES):
            self.check(S, plan, True)

    def test_the_empty_plan(self):
        for tap in (-MAX_PLACE, 0, MAX_PLACE):
            self.check((tap, 1, ()), (), True)
        self.check(S, (), False)
        self.check((0, 1, ((0, 1),)), (), False)

    def test_few_and_very_many_times(self):
        for times in (1, 2, 3, 1000, MAX_LITRES):
            self.check((0, 1, ((4, times),)), ((((4, 1),), times),), True)
            self.check((0, 1, ((4, times),)), ((((4, 1),), times + 1),), False)
            self.check((0, 1, ((4, times),)), ((((4, 1),), times - 1),), False)
        self.check((0, MAX_CAN, ((4, MAX_LITRES),)), ((((4, MAX_CAN),), 1000),), True)
        self.check((0, MAX_CAN, ((4, MAX_LITRES),)), ((((4, MAX_CAN),), LONG),), False)

    def test_plans_of_many_gardens(self):
        dice = Dice(7)
        for many in range(MAX_BEDS + 1):
            for _ in range(20):
                garden = some_garden(dice, many)
                self.check(garden, some_plan(dice, garden), True)


class WrongPlans(PlanCase):
    def test_an_item_left_out_or_twice(self):
        for plan in (P, BOTH, ONES):
            for index in range(2):
                self.check(S, plan[:index] + plan[index + 1:], False)
                self.check(S, plan[:index + 1] + plan[index:], False)

    def test_another_order(self):
        for plan in (P, BOTH, ONES):
            self.check(S, plan[::-1], False)
        # Trips ascend as Python's tuples do: a trip stands before its continuation.
        garden = (0, 2, ((1, 2), (3, 1)))
        self.check(garden, ((((1, 1),), 1), (((1, 1), (3, 1)), 1)), True)
        self.check(garden, ((((1, 1), (3, 1)), 1), (((1, 1),), 1)), False)

    def test_a_trip_in_two_items(self):
        garden = (0, 1, ((3, 5),))
        self.check(garden, ((((3, 1),), 5),), True)
        self.check(garden, ((((3, 1),), 2), (((3, 1),), 3)), False)
        self.check(garden, ((((3, 1),), 3), (((3, 1),), 2)), False)
        self.check((0, 1, ((3, 4),)), ((((3, 1),), 2), (((3, 1),), 2)), False)

    def test_other_times(self):
        for times in (0, -1, 2, LONG):
            self.check(S, ((((1, 1),), times), (((3, 2),), 1)), False)
            self.check(S, ((((1, 1),), 1), (((3, 2),), times)), False)
        # A negative number of times could make up for another trip.
        self.check((0, 2, ((3, 1),)), ((((3, 1),), -1), (((3, 2),), 1)), False)
        self.check((0, 2, ((3, 2),)), ((((3, 1),), 0), (((3, 2),), 1)), False)

    def test_too_few_and_too_many_litres(self):
        self.check(S, ((((1, 1),), 1), (((3, 1),), 1)), False)
        self.check(S, ((((1, 1),), 1), (((3, 1),), 3)), False)
        self.check(S, ((((1, 2),), 1), (((3, 2),), 1)), False)
        self.check(S, ((((1, 1), (3, 1)), 2),), False)
        self.check((0, 3, S[2]), ((((1, 1), (3, 3)), 1),), False)
        # The sum over all beds is right, but not each bed.
        self.check(S, ((((1, 1),), 2), (((3, 1),), 1)), False)

    def test_a_trip_that_is_none(self):
        self.check((0, 1, ((3, 2),)), ((((3, 2),), 1),), False)
        self.check(S, ((((1, 1),), 1), (((2, 1),), 1), (((3, 2),), 1)), False)
        self.check(S, (((), 1),) + P, False)
        self.check(S, ((((1, 1), (3, 2)), 1),), False)
        self.check((0, 1, ()), (((), 1),), False)
        self.check((0, 1, ()), ((((0, 1),), 1),), False)

    def test_a_litre_moved(self):
        garden = (0, 4, ((1, 4), (3, 4)))
        self.check(garden, ((((1, 2), (3, 2)), 2),), True)
        self.check(garden, ((((1, 1), (3, 2)), 1), (((1, 3), (3, 2)), 1)), False)
        self.check(garden, ((((1, 1), (3, 3)), 1), (((1, 3), (3, 1)), 1)), True)
        self.check(garden, ((((1, 2), (3, 1)), 1), (((1, 2), (3, 3)), 1)), False)

    def test_lists(self):
        for value in (list(P), (list(P[0]), P[1]), (([(1, 1)], 1), P[1]), ((([1, 1],), 1), P[1])):
            self.check(S, value, False)
        self.check((0, 1, ()), [], False)

    def test_values_of_other_kinds(self):
        for value in STRANGE + NUMBERS:
            self.check(S, value, False)
            self.check((0, 1, ()), value, False)
            self.check(S, (value,), False)
            self.check(S, (value,) + P, False)
            self.check(S, P + (value,), False)
            self.check(S, (P[0], (((3, 2),), value)), value == 1 and value is not True)
            self.check(S, (P[0], (value, 1)), False)

    def test_items_of_other_lengths(self):
        for item in ((), (((3, 2),),), (((3, 2),), 1, 1), ((3, 2),)):
            self.check(S, (P[0], item), False)

    def test_true_is_not_one(self):
        for one in (1, True, 1):
            told = one is not True
            self.check(S, ((((1, 1),), one), (((3, 2),), 1)), told)
            self.check(S, ((((1, one),), 1), (((3, 2),), 1)), told)
            self.check(S, ((((one, 1),), 1), (((3, 2),), 1)), told)
        for zero in (0, False, 0):
            self.check((5, 1, ((0, 1),)), ((((zero, 1),), 1),), zero is not False)

    def test_plans_of_other_gardens(self):
        dice = Dice(77)
        gardens = [some_garden(dice, many, small=True) for many in (0, 1, 1, 2, 2, 3, 4, 5, 12)] + [S, G]
        for garden in gardens:
            plan = some_plan(dice, garden)
            for other in gardens:
                self.check(other, plan, plain.is_plan(other, plan))
        # The same beds with a smaller can, another place, one litre more, one bed more or less.
        for other in ((0, 1, S[2]), (0, 2, ((1, 1), (4, 2))), (0, 2, ((1, 1), (3, 3))), (0, 2, ((1, 2), (3, 2))),
                      (0, 2, ((1, 1), (3, 2), (4, 1))), (0, 2, ((3, 2),))):
            self.check(other, P, False)
        for other in ((9, 2, S[2]), (0, 3, S[2])):
            self.check(other, P, True)

    def test_one_change_at_any_depth(self):
        dice = Dice(777)
        others = (None, True, False, "a", [], (), (1, 1), ((1, 1),), (((1, 1),), 1), 0, 1, -1, 2, LONG)
        cases = [(S, P), (S, BOTH), (S, ONES), ((0, 1, ()), ())]
        for many in (1, 2, 3, 5, 8, 12):
            garden = some_garden(dice, many, small=True)
            cases.append((garden, some_plan(dice, garden)))
        for garden, plan in cases:
            for value in changed(plan, others):
                self.check(garden, value, plain.is_plan(garden, value))


class Sums(unittest.TestCase):
    def check(self, garden, plan, way, trips):
        before = repr((garden, plan))
        with self.subTest(case=before[:300]):
            for _ in range(2):
                self.assertEqual(way_of(garden, plan), way)
                self.assertEqual(trips_of(garden, plan), trips)
            self.assertIs(type(way_of(garden, plan)), int)
            self.assertIs(type(trips_of(garden, plan)), int)
            self.assertEqual(repr((garden, plan)), before)

    def test_plans_of_a_small_garden(self):
        self.check(S, P, 8, 2)
        self.check(S, BOTH, 12, 2)
        self.check(S, ONES, 14, 3)
        self.check((2, 2, S[2]), BOTH, 6, 2)

    def test_the_empty_plan(self):
        self.check((5, 1, ()), (), 0, 0)

    def test_a_bed_at_the_tap(self):
        self.check((3, 1, ((3, 7),)), ((((3, 1),), 7),), 0, 7)

    def test_very_many_times(self):
        garden = (MAX_PLACE, 1, ((-MAX_PLACE, MAX_LITRES),))
        self.check(garden, ((((-MAX_PLACE, 1),), MAX_LITRES),), 4 * MAX_PLACE * MAX_LITRES, MAX_LITRES)

    def test_trips_are_counted_as_often_as_they_are_made(self):
        dice = Dice(70)
        for many in range(MAX_BEDS + 1):
            for _ in range(10):
                garden = some_garden(dice, many, small=True)
                plan = some_plan(dice, garden)
                made = [trip for trip, times in plan for _ in range(times)]
                way = sum(plain.way_of_trip(garden, trip) for trip in made)
                self.check(garden, plan, way, len(made))


if __name__ == "__main__":
    unittest.main()
