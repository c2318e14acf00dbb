"""All small gardens, compared with the list of all their plans: promises 2 (a), (b), (e), 8, 9 and 12."""

import unittest
from itertools import combinations, product

from canpath.bounds import LIMIT
from canpath.counting import count_best, count_plans, each_plan
from canpath.ways import best_plan, certificate, certificate_holds, fewest_trips, least_way
from tests import plain

PLACES = (0, 1, 3, 4)
TAPS = range(-1, 6)
CANS = (1, 2, 3, 4)
MOST_LITRES = 6


def small_beds():
    """All beds of none to three places that want at most six litres together."""
    for many in range(4):
        for places in combinations(PLACES, many):
            for litres in product(range(1, MOST_LITRES + 1), repeat=many):
                if sum(litres) <= MOST_LITRES:
                    yield tuple(zip(places, litres))


def listed_gardens():
    """All gardens with these beds, each with all its plans and their ways."""
    for beds in small_beds():
        for can in CANS:
            # The place of the tap changes the ways, not the plans.
            plans = plain.all_plans((0, can, beds))
            for tap in TAPS:
                garden = (tap, can, beds)
                yield garden, plans, [plain.way_of(garden, plan) for plan in plans]


class SmallGardens(unittest.TestCase):
    @classmethod
    def setUpClass(cls):
        cls.listed = list(listed_gardens())

    def test_there_are_gardens_of_all_kinds(self):
        self.assertEqual({len(beds) for (_, _, beds), _, _ in self.listed}, {0, 1, 2, 3})
        self.assertEqual({can for (_, can, _), _, _ in self.listed}, set(CANS))
        totals = {sum(litres for _, litres in beds) for (_, _, beds), _, _ in self.listed}
        self.assertEqual(totals, set(range(MOST_LITRES + 1)))
        self.assertTrue(all(plans for _, plans, _ in self.listed))

    def test_least_way_and_fewest_trips(self):
        for garden, plans, ways in self.listed:
            with self.subTest(garden=garden):
                self.assertEqual(least_way(garden), min(ways))
                self.assertEqual(fewest_trips(garden), min(plain.trips_of(plan) for plan in plans))

    def test_best_plan(self):
        for garden, plans, ways in self.listed:
            with self.subTest(garden=garden):
                best = best_plan(garden)
                self.assertIn(best, plans)
                self.assertEqual(plain.way_of(garden, best), min(ways))
                self.assertEqual(plain.trips_of(best), min(plain.trips_of(plan) for plan in plans))

    def test_counts_of_plans(self):
        for garden, plans, ways in self.listed:
            with self.subTest(garden=garden):
                self.assertEqual(count_plans(garden), len(plans))
                self.assertEqual(count_best(garden), ways.count(min(ways)))

    def test_each_plan(self):
        for garden, plans, _ in self.listed:
            with self.subTest(garden=garden):
                self.assertEqual(list(each_plan(garden)), plans)

    def test_certificate(self):
        for garden, plans, ways in self.listed:
            least = min(ways)
            for number in sorted({0, max(0, least - 1), least, least + 1, max(ways), LIMIT}):
                with self.subTest(garden=garden, number=number):
                    kind, content = certificate(garden, number)
                    if least <= number:
                        self.assertEqual(kind, "plan")
                        self.assertIn(content, plans)
                        self.assertLessEqual(plain.way_of(garden, content), number)
                    else:
                        self.assertEqual(kind, "counts")
                        self.assertTrue(plain.are_counts(garden, number, content))

    def test_all_plans_are_certificates_from_their_way_on(self):
        for garden, plans, ways in self.listed:
            for plan, way in zip(plans, ways):
                value = ("plan", plan)
                self.assertIs(certificate_holds(garden, way, value), True, (garden, plan))
                if way > 0:
                    self.assertIs(certificate_holds(garden, way - 1, value), False, (garden, plan))

    def test_plans_of_other_gardens(self):
        for (garden, plans, ways), (_, others, _) in zip(self.listed, self.listed[1:] + self.listed[:1]):
            for plan in others[::3]:
                told = certificate_holds(garden, LIMIT, ("plan", plan))
                self.assertIs(told, plan in plans, (garden, plan))

    def test_all_counts(self):
        """Counts are right exactly if the definition says so, and then no plan is that short."""
        for garden, _, ways in self.listed[::5]:
            stretches = plain.stretches_of(garden)
            for counts in product(range(-1, 4), repeat=len(stretches)):
                number = sum(2 * (high - low) * count for (low, high, _), count in zip(stretches, counts))
                for asked in {number - 1, number, min(ways) - 1, min(ways)}:
                    if asked >= 0:
                        told = certificate_holds(garden, asked, ("counts", counts))
                        self.assertIs(told, plain.are_counts(garden, asked, counts), (garden, asked, counts))
                        self.assertFalse(told and min(ways) <= asked, (garden, asked, counts))


if __name__ == "__main__":
    unittest.main()
