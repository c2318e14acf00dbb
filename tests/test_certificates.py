"""Promise 9, with 2 (a) and (e): plans and counts that show what a way can be."""

import unittest

from canpath.bounds import LIMIT, MAX_BEDS, MAX_LITRES, MAX_PLACE
from canpath.ways import best_plan, certificate, certificate_holds, least_way
from tests import plain
from tests.makers import (
    G, LONG, NUMBERS, S, STRANGE, Dice, changed, collected, each_made, gardens_at_the_bounds, sided_garden,
    sided_gardens, some_garden, some_plan,
)

P = ((((1, 1),), 1), (((3, 2),), 1))
OTHERS = (None, True, False, "plan", "counts", [], (), (1, 1), ((1, 1),), (((1, 1),), 1), 0, 1, -1, 2, LONG)


def numbers_around(way):
    """Numbers around the way, and far off it."""
    found = {0, 1, way // 2, 2 * way, LIMIT - 1, LIMIT}
    found.update(range(way - 3, way + 4))
    return sorted(number for number in found if 0 <= number <= LIMIT)


def least_counts(garden):
    return tuple(-(-litres // garden[1]) for _, _, litres in plain.stretches_of(garden))


def some_gardens(seed, each=1):
    """Few enough gardens to change everything about their certificates."""
    dice = Dice(seed)
    sizes = (0, 1, 1, 2, 2, 3, 4, 6, 12) * each
    made = [some_garden(dice, many, small=True) for many in sizes]
    return made + [sided_garden(dice, many, "few", "both") for many in sizes] + [S, G, (2, 2, S[2])]


class Certificates(unittest.TestCase):
    def check(self, garden, number):
        before = repr((garden, number))
        with self.subTest(garden=garden, number=number):
            found = certificate(garden, number)
            self.assertTrue(plain.certificate_holds(garden, number, found))
            self.assertIs(certificate_holds(garden, number, found), True)
            kind, content = found
            self.assertEqual(kind, "plan" if plain.least_way(garden) <= number else "counts")
            if kind == "plan":
                self.assertLessEqual(len(content), 100)
            self.assertEqual(repr(certificate(*eval(before))), repr(found))
            self.assertEqual(repr((garden, number)), before)

    def check_around(self, garden):
        for number in numbers_around(plain.least_way(garden)):
            self.check(garden, number)

    def test_examples(self):
        for garden in (S, G, (2, 2, S[2])):
            self.check_around(garden)
            for number in range(40):
                self.check(garden, number)

    def test_no_beds_and_a_bed_at_the_tap(self):
        self.assertEqual(certificate((5, 1, ()), 0), ("plan", ()))
        self.assertEqual(certificate((5, 1, ((5, 2),)), 0), ("plan", ((((5, 1),), 2),)))
        self.check_around((5, 1, ()))
        self.check_around((5, 1, ((5, 2),)))

    def test_gardens_of_all_sizes(self):
        for garden in sided_gardens(9, each=1):
            self.check_around(garden)

    def test_at_the_bounds(self):
        for garden in gardens_at_the_bounds():
            way = least_way(garden)
            for number in (0, max(0, way - 1), way, LIMIT):
                self.check(garden, number)


class HoldsCase(unittest.TestCase):
    def check(self, garden, number, value):
        before = repr((garden, number, value))
        expected = plain.certificate_holds(garden, number, value)
        with self.subTest(case=before[:300]):
            for _ in range(2):
                told = certificate_holds(garden, number, value)
                # The expected answer is a bool too, so this also asks for a bool.
                self.assertIs(told, expected)
            self.assertEqual(repr((garden, number, value)), before)
            if expected:
                kind = "plan" if plain.least_way(garden) <= number else "counts"
                self.assertEqual(value[0], kind)
        return expected


class RightAndWrongNumbers(HoldsCase):
    def test_returned_certificates_at_all_numbers(self):
        for garden in sided_gardens(90, each=1) + gardens_at_the_bounds()[::7]:
            way = plain.least_way(garden)
            numbers = numbers_around(way)
            for made_for in (way, way - 1):
                if made_for >= 0:
                    value = certificate(garden, made_for)
                    told = [self.check(garden, number, value) for number in numbers]
                    self.assertEqual(told, [(number >= way) == (made_for == way) for number in numbers])

    def test_plans_that_are_not_best(self):
        dice = Dice(91)
        for garden in some_gardens(92):
            plan = some_plan(dice, garden)
            way = plain.way_of(garden, plan)
            for number in numbers_around(way):
                self.assertEqual(self.check(garden, number, ("plan", plan)), way <= number)

    def test_the_kind_and_the_content_belong_together(self):
        for garden in some_gardens(93):
            plan, counts = best_plan(garden), least_counts(garden)
            for number in (0, plain.least_way(garden), LIMIT):
                self.check(garden, number, ("counts", plan))
                self.check(garden, number, ("plan", counts))
                for kind in ("", "Plan", "plans", "count", "plan ", "counts\n", None, True, 0, ("plan",), ["plan"]):
                    self.assertIs(self.check(garden, number, (kind, plan)), False)
                    self.assertIs(self.check(garden, number, (kind, counts)), False)


class Counts(HoldsCase):
    def test_one_greater_or_less(self):
        for garden in sided_gardens(94, each=1):
            counts = least_counts(garden)
            way = plain.least_way(garden)
            for index, count in enumerate(counts):
                for other in (count + 1, count - 1, count + LONG, 0, -1, 1, True, False):
                    value = ("counts", counts[:index] + (other,) + counts[index + 1:])
                    for number in (0, max(0, way - 1), way, way + 1, LIMIT):
                        self.check(garden, number, value)

    def test_zero_may_stand_for_any_stretch(self):
        self.assertIs(self.check(S, 3, ("counts", (2, 0))), True)
        self.assertIs(self.check(S, 4, ("counts", (2, 0))), False)
        self.assertIs(self.check(S, 3, ("counts", (0, 1))), True)
        self.assertIs(self.check(S, 0, ("counts", (0, 0))), False)
        self.assertIs(self.check(S, 0, ("counts", (1, 0))), True)

    def test_just_as_many_as_the_litres_allow(self):
        for can in (1, 2, 3, 7):
            for litres in range(1, 3 * can + 2):
                garden = (0, can, ((5, litres),))
                for count in range(6):
                    told = self.check(garden, 0, ("counts", (count,)))
                    self.assertEqual(told, 1 <= count and can * (count - 1) < litres)

    def test_negative_counts_do_not_make_up_for_others(self):
        garden = (0, 2, ((-3, 2), (3, 2)))
        self.assertIs(self.check(garden, 0, ("counts", (-1, 1))), False)
        self.assertIs(self.check(garden, 0, ("counts", (0, -1))), False)
        self.assertIs(self.check(garden, 0, ("counts", (-LONG, 1))), False)

    def test_another_number_of_counts(self):
        for garden in some_gardens(95):
            counts = least_counts(garden)
            for value in (counts[1:], counts[:-1], counts + (0,), (0,) + counts, counts + counts):
                self.check(garden, 0, ("counts", value))
        self.assertIs(self.check((0, 1, ()), 0, ("counts", ())), False)
        self.assertIs(self.check((0, 1, ((0, 4),)), 0, ("counts", (1,))), False)

    def test_one_then_true_then_one(self):
        garden = (0, 2, ((3, 2),))
        for one in (1, True, 1):
            self.assertIs(self.check(garden, 0, ("counts", (one,))), one is not True)
        for zero in (0, False, 0):
            self.assertIs(self.check(S, 0, ("counts", (1, zero))), zero is not False)

    def test_at_the_bounds(self):
        garden = (-MAX_PLACE, 1, ((MAX_PLACE, MAX_LITRES),))
        way = 4 * MAX_PLACE * MAX_LITRES
        self.assertIs(self.check(garden, way - 1, ("counts", (MAX_LITRES,))), True)
        self.assertIs(self.check(garden, way, ("counts", (MAX_LITRES,))), False)
        self.assertIs(self.check(garden, way - 1, ("counts", (MAX_LITRES + 1,))), False)


class Plans(HoldsCase):
    def check_plan(self, garden, plan):
        """The plan, which may be none, at numbers around what its way would be."""
        way = plain.way_of(garden, plan)
        for number in sorted({0, max(0, way - 1), max(0, way), max(0, way + 1), plain.least_way(garden), LIMIT}):
            self.check(garden, number, ("plan", plan))

    def plans(self, seed):
        dice = Dice(seed)
        for garden in some_gardens(seed):
            yield garden, best_plan(garden)
            yield garden, some_plan(dice, garden)

    def test_trips_exchanged(self):
        for garden, plan in self.plans(96):
            for first in range(len(plan)):
                for second in range(first + 1, len(plan)):
                    other = list(plan)
                    other[first], other[second] = plan[second], plan[first]
                    self.check_plan(garden, tuple(other))
                    (one, once), (two, twice) = plan[first], plan[second]
                    other[first], other[second] = (one, twice), (two, once)
                    self.check_plan(garden, tuple(other))

    def test_times_changed(self):
        for garden, plan in self.plans(97):
            for index, (trip, times) in enumerate(plan):
                for other in (times + 1, times - 1, 0, -1, -times, True, LONG):
                    self.check_plan(garden, plan[:index] + ((trip, other),) + plan[index + 1:])

    def test_litres_moved_between_trips(self):
        dice = Dice(98)
        for garden, plan in self.plans(98):
            trips = each_made(plan)
            for _ in range(20 if len(trips) > 1 else 0):
                giving, taking = dice.throw(len(trips)), dice.throw(len(trips))
                moved = [dict(trip) for trip in trips]
                place = dice.pick(sorted(moved[giving]))
                moved[giving][place] -= 1
                moved[taking][place] = moved[taking].get(place, 0) + 1
                rows = [tuple(sorted((goal, litres) for goal, litres in trip.items() if litres)) for trip in moved]
                self.check_plan(garden, collected([trip for trip in rows if trip]))
                # Moved to another bed, so that one bed gets too little.
                moved[taking][dice.pick(garden[2])[0]] = 1
                self.check_plan(garden, collected([tuple(sorted(trip.items())) for trip in moved]))

    def test_trips_divided(self):
        for garden, plan in self.plans(99):
            trips = each_made(plan)
            for index, trip in enumerate(trips):
                rest = trips[:index] + trips[index + 1:]
                for cut in range(1, len(trip)):
                    self.check_plan(garden, collected(rest + [trip[:cut], trip[cut:]]))
                place, litres = trip[0]
                if litres > 1:
                    self.check_plan(garden, collected(rest + [((place, 1),), ((place, litres - 1),) + trip[1:]]))
                    self.check_plan(garden, collected(rest + [((place, 1),), trip]))

    def test_plans_of_other_gardens(self):
        gardens = some_gardens(100)
        for garden in gardens:
            for other in gardens:
                for number in (0, plain.least_way(garden), LIMIT):
                    self.check(garden, number, certificate(other, plain.least_way(other)))
                    self.check(garden, number, ("counts", least_counts(other)))
        for tap, can, beds in gardens:
            plan = best_plan((tap, can, beds))
            others = [(tap + 1, can, beds), (tap - 1, can, beds), (tap, can + 1, beds), (tap, max(1, can - 1), beds)]
            others += [(tap, can, beds[1:]), (tap, can, tuple((place, litres + 1) for place, litres in beds))]
            for other in others:
                for number in numbers_around(plain.least_way(other)):
                    self.check(other, number, ("plan", plan))


class ChangedCertificates(HoldsCase):
    def test_one_change_at_any_depth(self):
        dice = Dice(101)
        gardens = [some_garden(dice, many, small=True) for many in (0, 1, 2, 3, 5)] + [S, G]
        for garden in gardens:
            way = plain.least_way(garden)
            for made_for in (way, way - 1, 0):
                value = certificate(garden, max(0, made_for))
                for number in (0, max(0, way - 1), way):
                    for other in changed(value, OTHERS):
                        self.check(garden, number, other)

    def test_twelve_beds(self):
        garden = sided_garden(Dice(102), MAX_BEDS, "few", "both")
        way = plain.least_way(garden)
        for made_for in (way, way - 1):
            for other in changed(certificate(garden, made_for), (None, True, -1, 0, ())):
                self.check(garden, made_for, other)

    def test_values_of_other_kinds(self):
        for garden in (S, G, (0, 1, ())):
            for value in STRANGE + NUMBERS:
                for asked in (value, (value,), ("plan", value), ("counts", value), (value, P), (value, (2, 1)),
                              ("plan", P, value), ("counts", (value, 1)), ("counts", (2, value))):
                    for number in (0, 7, 8, LIMIT):
                        self.check(garden, number, asked)

    def test_lists(self):
        for value in (["plan", P], ("plan", list(P)), ["counts", (2, 1)], ("counts", [2, 1])):
            for number in (7, 8):
                self.assertIs(self.check(S, number, value), False)


if __name__ == "__main__":
    unittest.main()
