"""Promise 10: what more litres cost, and which can is large enough."""

import unittest

from canpath.bounds import LIMIT, MAX_BEDS, MAX_CAN, MAX_LITRES, MAX_PLACE
from canpath.more import extra_way, free_litres, least_can
from tests import plain
from tests.makers import (
    G, S, Dice, gardens_at_the_bounds, mirrored, places_near, sided_gardens, some_garden, spread_garden,
)


def full_cans(dice, many, by):
    """A garden whose beds fill cans, with so many litres more or less at one of them."""
    tap, can, beds = some_garden(dice, many, small=True)
    can += 1
    wanted = [can * (1 + dice.throw(3)) for _ in beds]
    if wanted:
        wanted[dice.throw(many)] += by
    return (tap, can, tuple((place, litres) for (place, _), litres in zip(beds, wanted)))


def small_gardens(seed):
    dice = Dice(seed)
    gardens = [some_garden(dice, many, small=True) for many in range(MAX_BEDS + 1) for _ in range(4)]
    return gardens + [full_cans(dice, many, by) for many in range(MAX_BEDS + 1) for by in (-1, 0, 1)]


def all_gardens(seed):
    ends = [spread_garden(many, tap) for many in (1, 2, 5, MAX_BEDS) for tap in (-MAX_PLACE, 0, MAX_PLACE)]
    return small_gardens(seed) + sided_gardens(seed, each=1) + gardens_at_the_bounds()[::5] + ends


class MoreLitres(unittest.TestCase):
    def test_extra_way(self):
        for garden in all_gardens(1):
            way = plain.least_way(garden)
            for place in places_near(garden):
                told = extra_way(garden, place)
                self.assertEqual(told, plain.least_way(plain.grown(garden, place, 1)) - way, (garden, place))

    def test_free_litres_one_by_one(self):
        for garden in small_gardens(2):
            way = plain.least_way(garden)
            for place in places_near(garden):
                if place == garden[0]:
                    continue
                free = 0
                while plain.least_way(plain.grown(garden, place, free + 1)) == way:
                    free += 1
                self.assertEqual(free_litres(garden, place), free, (garden, place))

    def test_free_litres_and_one_more(self):
        for garden in all_gardens(3):
            way = plain.least_way(garden)
            for place in places_near(garden):
                free = free_litres(garden, place)
                if place == garden[0]:
                    self.assertIsNone(free, (garden, place))
                    self.assertEqual(extra_way(garden, place), 0)
                    continue
                self.assertIs(type(free), int)
                self.assertGreaterEqual(free, 0)
                self.assertEqual(plain.least_way(plain.grown(garden, place, free)), way, (garden, place))
                self.assertGreater(plain.least_way(plain.grown(garden, place, free + 1)), way, (garden, place))
                self.assertEqual(extra_way(garden, place) == 0, free > 0)

    def test_behind_the_last_bed_nothing_is_free(self):
        for garden in all_gardens(4):
            marks = sorted({garden[0], *dict(garden[2])})
            for place, mark in ((marks[0] - 1, marks[0]), (marks[-1] + 1, marks[-1])):
                self.assertEqual(free_litres(garden, place), 0)
                self.assertEqual(extra_way(garden, place) - extra_way(garden, mark), 2)

    def test_without_beds(self):
        for tap in (-MAX_PLACE, -3, 0, MAX_PLACE):
            garden = (tap, 5, ())
            for place in (-MAX_PLACE, -4, -3, 0, 1, MAX_PLACE):
                self.assertEqual(extra_way(garden, place), 2 * abs(place - tap))
                self.assertEqual(free_litres(garden, place), None if place == tap else 0)

    def test_more_beds_and_litres_than_a_garden_may_have(self):
        garden = (0, 7, tuple((place, MAX_LITRES) for place in range(1, MAX_BEDS + 1)))
        for place in (1, MAX_BEDS, MAX_BEDS + 1, -1, 0):
            grown = plain.least_way(plain.grown(garden, place, 1)) - plain.least_way(garden)
            self.assertEqual(extra_way(garden, place), grown)
        self.assertEqual(free_litres((0, MAX_CAN, ((1, MAX_LITRES - 1), (2, 1))), 1), 0)
        self.assertEqual(free_litres((0, MAX_CAN - 1, ((1, MAX_LITRES),)), 1), MAX_CAN - 1 - MAX_LITRES % (MAX_CAN - 1))


class LeastCan(unittest.TestCase):
    def check(self, garden, number):
        tap, _, beds = garden
        can = least_can(garden, number)
        with self.subTest(garden=garden, number=number):
            if can is None:
                self.assertGreater(plain.least_way((tap, 10 ** 12, beds)), number)
            else:
                self.assertGreaterEqual(can, 1)
                self.assertLessEqual(plain.least_way((tap, can, beds)), number)
                if can > 1:
                    self.assertGreater(plain.least_way((tap, can - 1, beds)), number)

    def test_numbers_around_ways_with_other_cans(self):
        for garden in all_gardens(5):
            tap, can, beds = garden
            total = sum(litres for _, litres in beds)
            for other in (1, 2, 3, can, can + 1, MAX_CAN, MAX_CAN + 1, total // 2 + 1, max(1, total - 1), total + 1):
                way = plain.least_way((tap, other, beds))
                for number in (way - 1, way, way + 1):
                    if number >= 0:
                        self.check(garden, number)
            self.check(garden, 0)
            self.check(garden, LIMIT)

    def test_each_number(self):
        dice = Dice(6)
        for many in range(5):
            tap, can, beds = some_garden(dice, many, small=True)
            total = max(1, sum(litres for _, litres in beds))
            ways = [plain.least_way((tap, other, beds)) for other in range(1, total + 1)]
            for number in range(max(ways) + 3):
                fitting = [index + 1 for index, way in enumerate(ways) if way <= number]
                self.assertEqual(least_can((tap, can, beds), number), fitting[0] if fitting else None)

    def test_the_can_of_the_garden_does_not_matter(self):
        for tap, can, beds in small_gardens(7):
            for number in (0, 10, 100, plain.least_way((tap, can, beds))):
                told = {least_can((tap, other, beds), number) for other in (1, can, 77, MAX_CAN)}
                self.assertEqual(len(told), 1)

    def test_the_greatest_litres_and_twelve_beds(self):
        beds = tuple((place, MAX_LITRES) for place in range(1, MAX_BEDS + 1))
        self.assertEqual(least_can((0, 1, beds), 2 * MAX_BEDS), MAX_BEDS * MAX_LITRES)
        self.assertIsNone(least_can((0, 1, beds), 2 * MAX_BEDS - 1))
        self.assertEqual(least_can((0, 1, beds), 2 * MAX_BEDS + 2), (MAX_BEDS - 1) * MAX_LITRES)
        self.assertEqual(least_can((0, 1, beds), LIMIT), 1)

    def test_without_a_way(self):
        for number in (0, 1, LIMIT):
            self.assertEqual(least_can((5, 9, ()), number), 1)
            self.assertEqual(least_can((5, 9, ((5, MAX_LITRES),)), number), 1)


class ChangedAlike(unittest.TestCase):
    def test_seen_from_the_other_end(self):
        for garden in all_gardens(8):
            for place in places_near(garden):
                self.assertEqual(extra_way(garden, place), extra_way(mirrored(garden), -place))
                self.assertEqual(free_litres(garden, place), free_litres(mirrored(garden), -place))
            for number in (0, 50, plain.least_way(garden)):
                self.assertEqual(least_can(garden, number), least_can(mirrored(garden), number))

    def test_moved_along(self):
        for tap, can, beds in small_gardens(9) + [S, G]:
            for by in (1, -7, 5000):
                other = (tap + by, can, tuple((place + by, litres) for place, litres in beds))
                for place in places_near((tap, can, beds))[1:-1]:
                    self.assertEqual(extra_way((tap, can, beds), place), extra_way(other, place + by))
                    self.assertEqual(free_litres((tap, can, beds), place), free_litres(other, place + by))
                for number in (0, 30, plain.least_way((tap, can, beds))):
                    self.assertEqual(least_can((tap, can, beds), number), least_can(other, number))

    def test_distances_multiplied(self):
        for tap, can, beds in small_gardens(10) + [S, G]:
            for by in (2, 5):
                other = (tap * by, can, tuple((place * by, litres) for place, litres in beds))
                for place in places_near((tap, can, beds))[1:-1]:
                    self.assertEqual(extra_way((tap, can, beds), place) * by, extra_way(other, place * by))
                    self.assertEqual(free_litres((tap, can, beds), place), free_litres(other, place * by))
                for number in (0, 30, plain.least_way((tap, can, beds))):
                    self.assertEqual(least_can((tap, can, beds), number), least_can(other, number * by))

    def test_litres_and_can_multiplied(self):
        for tap, can, beds in small_gardens(11) + [S, G]:
            for by in (2, 5):
                other = (tap, can * by, tuple((place, litres * by) for place, litres in beds))
                for place in places_near((tap, can, beds)):
                    self.assertEqual(extra_way((tap, can, beds), place), extra_way(other, place))
                    free = free_litres((tap, can, beds), place)
                    self.assertEqual(free_litres(other, place), None if free is None else free * by)
                for number in (30, plain.least_way((tap, can, beds))):
                    least = least_can((tap, can, beds), number)
                    if least is None:
                        self.assertIsNone(least_can(other, number))
                    else:
                        self.assertLessEqual(least_can(other, number), least * by)
                        self.assertGreater(least_can(other, number), (least - 1) * by)


if __name__ == "__main__":
    unittest.main()
