"""What holds over gardens, stretches, trips and plans together."""

import unittest

from canpath.bounds import MAX_BEDS
from canpath.gardens import garden_error, is_garden, stretches_of
from canpath.trips import is_plan, is_trip, trips_of, way_of, way_of_trip
from tests.makers import G, S, Dice, some_garden, some_plan


def cases(seed, kinds=(True, False)):
    """Gardens of all sizes, with few litres and with many, each with some plan."""
    dice = Dice(seed)
    for many in range(MAX_BEDS + 1):
        for small in kinds:
            for _ in range(8):
                garden = some_garden(dice, many, small=small)
                yield garden, some_plan(dice, garden)


def goes_to(garden, trip, stretch):
    """Whether the trip brings litres beyond the stretch."""
    low, high, _ = stretch
    if low >= garden[0]:
        return any(place >= high for place, _ in trip)
    return any(place <= low for place, _ in trip)


def change_plan(plan, change):
    """The plan with each row changed, in order again."""
    trips = [(tuple(sorted(change(*row) for row in trip)), times) for trip, times in plan]
    return tuple(sorted(trips))


def change_garden(garden, change, can):
    tap, _, beds = garden
    return (change(tap, 1)[0], can, tuple(sorted(change(*bed) for bed in beds)))


class WaysAndStretches(unittest.TestCase):
    def test_way_of_a_trip_is_twice_its_stretches(self):
        for garden, plan in cases(1):
            for trip, _ in plan:
                walked = [high - low for low, high, litres in stretches_of(garden)
                          if goes_to(garden, trip, (low, high, litres))]
                self.assertEqual(way_of_trip(garden, trip), 2 * sum(walked))

    def test_way_of_a_plan_is_the_sum_over_all_stretches(self):
        for garden, plan in cases(2):
            way = 0
            for stretch in stretches_of(garden):
                many = sum(times for trip, times in plan if goes_to(garden, trip, stretch))
                way += 2 * (stretch[1] - stretch[0]) * many
                # Nobody can carry the litres beyond a stretch with fewer cans.
                self.assertGreaterEqual(many * garden[1], stretch[2])
            self.assertEqual(way_of(garden, plan), way)

    def test_neighbouring_stretches_differ_by_the_bed_between_them(self):
        for garden, _ in cases(3):
            tap, _, beds = garden
            stretches = stretches_of(garden)
            for (_, mark, left), (low, _, right) in zip(stretches, stretches[1:]):
                self.assertEqual(mark, low)
                wanted = dict(beds).get(mark, 0)
                if mark < tap:
                    self.assertEqual(right - left, wanted)
                elif mark > tap:
                    self.assertEqual(left - right, wanted)
                else:
                    self.assertEqual(left + right + wanted, sum(litres for _, litres in beds))

    def test_stretches_go_from_the_first_mark_to_the_last(self):
        for garden, _ in cases(4):
            marks = sorted({garden[0], *dict(garden[2])})
            stretches = stretches_of(garden)
            self.assertEqual(len(stretches), len(marks) - 1)
            self.assertEqual(sum(high - low for low, high, _ in stretches), marks[-1] - marks[0])


class ChangedAlike(unittest.TestCase):
    def check(self, asked, change, can_by, way_by):
        for garden, plan in asked:
            other = change_garden(garden, change, garden[1] * can_by)
            moved = change_plan(plan, change)
            with self.subTest(garden=garden, other=other):
                self.assertIs(is_garden(other), True)
                self.assertIs(is_plan(other, moved), True)
                self.assertEqual(way_of(other, moved), way_by * way_of(garden, plan))
                self.assertEqual(trips_of(other, moved), trips_of(garden, plan))
                if other != garden and garden[2]:
                    self.assertIs(is_plan(garden, moved), moved == plan)

    def test_moved(self):
        for by in (1, -3, 1000):
            self.check(cases(5), lambda place, litres: (place + by, litres), 1, 1)

    def test_mirrored(self):
        self.check(cases(6), lambda place, litres: (-place, litres), 1, 1)

    def test_stretched(self):
        for by in (2, 7, 1000):
            self.check(cases(7), lambda place, litres: (place * by, litres), 1, by)

    def test_litres_multiplied_with_the_can(self):
        for by in (2, 3, 1000):
            self.check(cases(8, kinds=(True,)), lambda place, litres: (place, litres * by), by, 1)


class EqualCalls(unittest.TestCase):
    """Promise 3: equal calls return equal results, and the arguments are as they were."""

    def ask_all(self, garden, plan):
        told = [is_garden(garden), garden_error(garden), stretches_of(garden), is_plan(garden, plan),
                way_of(garden, plan), trips_of(garden, plan)]
        for trip, _ in plan:
            told += [is_trip(garden, trip), way_of_trip(garden, trip)]
        return told

    def test_equal_calls(self):
        asked = list(cases(9))
        before = repr(asked)
        first = [self.ask_all(garden, plan) for garden, plan in asked]
        # Other questions in between, and copies that are equal but not the same.
        copies = [eval(repr(case)) for case in asked]
        second = [self.ask_all(garden, plan) for garden, plan in reversed(copies)][::-1]
        self.assertEqual(repr(first), repr(second))
        self.assertEqual(repr(asked), before)
        self.assertEqual(repr(copies), before)

    def test_lists_in_a_wrong_value_stay_as_they_are(self):
        value = [0, 2, [[1, 1], [3, 2]]]
        held = (0, 2, [[1, 1], [3, 2]])
        for question in (is_garden, garden_error, lambda one: is_trip(S, one), lambda one: is_plan(G, one)):
            question(value)
            question(held)
            question(value[2])
        self.assertEqual(value, [0, 2, [[1, 1], [3, 2]]])
        self.assertEqual(held, (0, 2, [[1, 1], [3, 2]]))

    def test_an_answer_does_not_change_with_the_value_asked_before(self):
        value = [(1, 1)]
        self.assertIs(is_garden((0, 2, tuple(value))), True)
        self.assertIs(is_garden((0, 2, value)), False)
        value.append((1, 1))
        self.assertIs(is_garden((0, 2, tuple(value))), False)
        self.assertIs(is_trip(S, tuple(value)), False)


if __name__ == "__main__":
    unittest.main()
