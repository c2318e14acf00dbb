"""Promises 2 (c) and 11: where the tap should be."""

import unittest

from canpath.bounds import MAX_BEDS, MAX_CAN, MAX_LITRES, MAX_PLACE
from canpath.taps import best_taps, better_tap, way_at
from canpath.ways import least_way
from tests import plain
from tests.makers import (
    G, S, Dice, gardens_at_the_bounds, mirrored, places_near, sided_gardens, some_garden, spread_garden,
)


def near_gardens(seed):
    """Gardens whose marks are near one another."""
    dice = Dice(seed)
    return [some_garden(dice, many, small=dice.throw(4) > 0) for many in range(1, MAX_BEDS + 1) for _ in range(12)]


def ways_around(garden, by=5):
    """The way at each place from left of all marks to right of them."""
    _, can, beds = garden
    marks = sorted({garden[0], *dict(beds)})
    return {place: plain.least_way((place, can, beds)) for place in range(marks[0] - by, marks[-1] + by + 1)}


def all_gardens(seed):
    ends = [spread_garden(many, tap) for many in range(MAX_BEDS + 1) for tap in (-MAX_PLACE, 0, 77, MAX_PLACE)]
    return near_gardens(seed)[::3] + sided_gardens(seed, each=1) + gardens_at_the_bounds()[::3] + ends


class WayAt(unittest.TestCase):
    def test_the_tap_is_moved(self):
        for garden in all_gardens(1):
            for place in places_near(garden):
                self.assertEqual(way_at(garden, place), plain.least_way((place, garden[1], garden[2])))
            self.assertEqual(way_at(garden, garden[0]), least_way(garden))

    def test_first_falls_then_stays_then_rises(self):
        for garden in near_gardens(2):
            ways = list(ways_around(garden).values())
            steps = [right - left for left, right in zip(ways, ways[1:])]
            # Steps that never become less go from below 0 over 0 to above 0.
            self.assertEqual(steps, sorted(steps), garden)

    def test_promise_2_c_far_away(self):
        for garden in all_gardens(3):
            ways = [way_at(garden, place) for place in places_near(garden)]
            signs = [(right > left) - (right < left) for left, right in zip(ways, ways[1:])]
            self.assertEqual(signs, sorted(signs), garden)


class BestTaps(unittest.TestCase):
    def check_better(self, garden, best):
        better = better_tap(garden)
        if best is None or best[0] <= garden[0] <= best[1]:
            self.assertIsNone(better, garden)
        else:
            self.assertIs(type(better), int)
            self.assertLessEqual(abs(better), MAX_PLACE)
            self.assertLess(plain.least_way((better, garden[1], garden[2])), plain.least_way(garden), garden)
        self.assertEqual(better_tap(garden), better)

    def test_all_places_of_near_gardens(self):
        for garden in near_gardens(4):
            ways = ways_around(garden)
            best = [place for place, way in ways.items() if way == min(ways.values())]
            self.assertEqual(best_taps(garden), (best[0], best[-1]), garden)
            self.check_better(garden, (best[0], best[-1]))

    def test_the_tap_of_the_garden_does_not_matter(self):
        for tap, can, beds in near_gardens(5)[::2]:
            best = best_taps((tap, can, beds))
            for other in places_near((tap, can, beds)):
                self.assertEqual(best_taps((other, can, beds)), best)
                self.check_better((other, can, beds), best)

    def test_far_gardens(self):
        for garden in all_gardens(6):
            best = best_taps(garden)
            self.assertEqual(best is None, garden[2] == ())
            self.check_better(garden, best)
            if best is None:
                continue
            least = way_at(garden, best[0])
            self.assertIs(type(best), tuple)
            self.assertEqual([way_at(garden, place) for place in (best[1], sum(best) // 2)], [least] * 2)
            self.assertEqual([place in dict(garden[2]) for place in best], [True, True])
            for place in (best[0] - 1, best[1] + 1):
                self.assertGreater(plain.least_way((place, garden[1], garden[2])), least)
            for place in places_near(garden):
                self.assertGreaterEqual(way_at(garden, place), least)

    def test_without_beds(self):
        for tap in (-MAX_PLACE, 0, MAX_PLACE):
            self.assertIsNone(best_taps((tap, 4, ())))
            self.assertIsNone(better_tap((tap, 4, ())))
            self.assertEqual([way_at((tap, 4, ()), place) for place in (-MAX_PLACE, 0, MAX_PLACE)], [0, 0, 0])

    def test_beds_at_both_ends_of_the_path(self):
        beds = ((-MAX_PLACE, MAX_LITRES), (MAX_PLACE, MAX_LITRES))
        self.assertEqual(best_taps((0, MAX_CAN, beds)), (-MAX_PLACE, MAX_PLACE))
        self.assertIsNone(better_tap((0, MAX_CAN, beds)))
        heavy = ((-MAX_PLACE, MAX_CAN), (MAX_PLACE, MAX_CAN + 1))
        self.assertEqual(best_taps((0, MAX_CAN, heavy)), (MAX_PLACE, MAX_PLACE))
        self.assertIsNotNone(better_tap((MAX_PLACE - 1, MAX_CAN, heavy)))
        self.assertIsNone(better_tap((MAX_PLACE, MAX_CAN, heavy)))

    def test_one_bed(self):
        for place in (-MAX_PLACE, -1, 0, MAX_PLACE):
            for tap in (-MAX_PLACE, 0, 1, MAX_PLACE):
                garden = (tap, 3, ((place, 7),))
                self.assertEqual(best_taps(garden), (place, place))
                self.assertEqual(way_at(garden, place), 0)
                self.check_better(garden, (place, place))


class ChangedAlike(unittest.TestCase):
    def test_seen_from_the_other_end(self):
        for garden in all_gardens(7):
            best, turned = best_taps(garden), best_taps(mirrored(garden))
            self.assertEqual(turned, None if best is None else (-best[1], -best[0]))
            for place in places_near(garden):
                self.assertEqual(way_at(garden, place), way_at(mirrored(garden), -place))
            self.assertEqual(better_tap(garden) is None, better_tap(mirrored(garden)) is None)

    def check(self, garden, other, change, by=1):
        """The change of places makes the other garden, whose ways are so many times as long."""
        best = best_taps(garden)
        self.assertEqual(best_taps(other), (change(best[0]), change(best[1])))
        for place in places_near(garden)[1:-1]:
            self.assertEqual(way_at(garden, place) * by, way_at(other, change(place)))
        self.assertEqual(better_tap(garden) is None, better_tap(other) is None)

    def test_moved_along(self):
        for tap, can, beds in near_gardens(8)[::2] + [S, G]:
            for by in (1, -5, 3000):
                other = (tap + by, can, tuple((place + by, litres) for place, litres in beds))
                self.check((tap, can, beds), other, lambda place: place + by)

    def test_distances_multiplied(self):
        for tap, can, beds in near_gardens(9)[::2] + [S, G]:
            for by in (2, 7):
                other = (tap * by, can, tuple((place * by, litres) for place, litres in beds))
                self.check((tap, can, beds), other, lambda place: place * by, by)

    def test_litres_and_can_multiplied(self):
        for tap, can, beds in near_gardens(10)[::2] + [S, G]:
            for by in (2, 7):
                other = (tap, can * by, tuple((place, litres * by) for place, litres in beds))
                self.check((tap, can, beds), other, lambda place: place)


if __name__ == "__main__":
    unittest.main()
