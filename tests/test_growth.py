"""Promises 2 (d) and 8: what more litres, beds and smaller cans do, and gardens that are changed as a whole."""

import unittest

from canpath.bounds import MAX_BEDS, MAX_CAN, MAX_LITRES, MAX_PLACE
from canpath.trips import is_plan, way_of
from canpath.ways import best_plan, certificate, certificate_holds, fewest_trips, least_way
from tests.makers import (
    Dice, collected, each_made, gardens_at_the_bounds, mirrored, sided_garden, sided_gardens, together,
)


def both(garden):
    return least_way(garden), fewest_trips(garden)


def wanting(garden, place, more):
    """The garden in which so many litres more are wanted at the place."""
    return together(garden, (garden[0], garden[1], ((place, more),)))


class Growth(unittest.TestCase):
    gardens = sided_gardens(20, each=2) + gardens_at_the_bounds()

    def check(self, garden, other):
        """The other garden needs no less than the garden."""
        with self.subTest(garden=garden, other=other):
            for less, more in zip(both(garden), both(other)):
                self.assertLessEqual(less, more)

    def test_more_litres_at_a_bed(self):
        for garden in self.gardens:
            for place, litres in garden[2]:
                for more in (1, 2, garden[1] - 1, garden[1], garden[1] + 1, MAX_LITRES - litres):
                    if 0 < more <= MAX_LITRES - litres:
                        self.check(garden, wanting(garden, place, more))

    def test_a_further_bed(self):
        dice = Dice(21)
        for garden in self.gardens:
            taken = [place for place, _ in garden[2]]
            places = [garden[0], garden[0] + 1, garden[0] - 1, -MAX_PLACE, MAX_PLACE]
            for place in places + [other + 1 for other in taken]:
                if abs(place) <= MAX_PLACE and place not in taken and len(taken) < MAX_BEDS:
                    litres = dice.pick((1, garden[1], garden[1] + 1, MAX_LITRES))
                    self.check(garden, wanting(garden, place, litres))

    def test_a_can_that_holds_less(self):
        for tap, can, beds in self.gardens:
            for less in sorted({can - 1, can // 2, can - can // 3, 1}):
                if 1 <= less < can:
                    self.check((tap, can, beds), (tap, less, beds))

    def test_a_full_can_more_costs_one_trip_and_twice_the_distance(self):
        for garden in self.gardens:
            tap, can, beds = garden
            way, trips = both(garden)
            for place, litres in beds:
                for cans in (1, 3):
                    if litres + cans * can <= MAX_LITRES:
                        told = both(wanting(garden, place, cans * can))
                        self.assertEqual(told, (way + 2 * abs(place - tap) * cans, trips + cans), (garden, place))

    def test_a_full_can_for_a_further_bed(self):
        for garden in sided_gardens(22, each=1):
            tap, can, beds = garden
            way, trips = both(garden)
            if len(beds) < MAX_BEDS:
                for place in (tap, tap + 5000, tap - 5000):
                    told = both(wanting(garden, place, can))
                    self.assertEqual(told, (way + 2 * abs(place - tap), trips + 1), (garden, place))


class ChangedAlike(unittest.TestCase):
    def check(self, garden, other, way_by=1):
        way, trips = both(garden)
        with self.subTest(garden=garden, other=other):
            self.assertEqual(both(other), (way * way_by, trips))
            plan = best_plan(other)
            self.assertIs(is_plan(other, plan), True)
            self.assertEqual(way_of(other, plan), way * way_by)
            if way > 0:
                counts = certificate(garden, way - 1)
                if mirrored(garden) == other:
                    counts = ("counts", counts[1][::-1])
                self.assertIs(certificate_holds(other, way * way_by - 1, counts), True)
                self.assertIs(certificate_holds(other, way * way_by, counts), False)

    def test_mirrored(self):
        for garden in sided_gardens(23, each=2) + gardens_at_the_bounds():
            self.check(garden, mirrored(garden))

    def test_places_moved(self):
        for tap, can, beds in sided_gardens(24, each=2):
            for by in (1, -1, 77, -MAX_PLACE // 2):
                self.check((tap, can, beds), (tap + by, can, tuple((place + by, litres) for place, litres in beds)))

    def test_places_multiplied(self):
        for tap, can, beds in sided_gardens(25, each=2):
            for by in (2, 3, 50):
                self.check((tap, can, beds), (tap * by, can, tuple((place * by, litres) for place, litres in beds)), by)

    def test_litres_and_can_multiplied(self):
        for tap, can, beds in sided_gardens(26, each=2):
            for by in (2, 3, 1000):
                if can * by <= MAX_CAN and all(litres * by <= MAX_LITRES for _, litres in beds):
                    self.check((tap, can, beds), (tap, can * by, tuple((place, litres * by) for place, litres in beds)))


class PutTogether(unittest.TestCase):
    def pairs(self, seed, litres):
        """Two gardens of at most six beds each, with the same tap and can."""
        dice = Dice(seed)
        for _ in range(150):
            one = sided_garden(dice, dice.throw(7), litres, dice.pick(("left", "right", "both", "at the tap")))
            other = sided_garden(dice, dice.throw(7), litres, "both")
            yield one, (one[0], one[1], other[2])

    def test_no_more_than_both_and_no_less_than_each(self):
        for litres in ("few", "around the can"):
            for one, other in self.pairs(27, litres):
                with self.subTest(one=one, other=other):
                    for joint, first, second in zip(both(together(one, other)), both(one), both(other)):
                        self.assertLessEqual(joint, first + second)
                        self.assertGreaterEqual(joint, max(first, second))

    def test_both_plans_are_a_plan(self):
        for one, other in self.pairs(28, "few"):
            with self.subTest(one=one, other=other):
                joint = together(one, other)
                plan = collected(each_made(best_plan(one)) + each_made(best_plan(other)))
                way = least_way(one) + least_way(other)
                self.assertIs(certificate_holds(joint, way, ("plan", plan)), True)
                self.assertEqual(way_of(joint, plan), way)

    def test_full_cans_share_nothing(self):
        for one, other in self.pairs(29, "few"):
            other = (other[0], other[1], tuple((place, litres * other[1]) for place, litres in other[2]))
            told = both(together(one, other))
            self.assertEqual(told, tuple(first + second for first, second in zip(both(one), both(other))))

    def test_the_ways_of_both_sides_are_added(self):
        for tap, can, beds in sided_gardens(30, each=3):
            left = (tap, can, tuple(bed for bed in beds if bed[0] < tap))
            right = (tap, can, tuple(bed for bed in beds if bed[0] >= tap))
            self.assertEqual(together(left, right), (tap, can, beds))
            self.assertEqual(least_way((tap, can, beds)), least_way(left) + least_way(right))


if __name__ == "__main__":
    unittest.main()
