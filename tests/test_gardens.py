"""Promise 4: gardens and the first error of what is none."""

import unittest

from canpath.bounds import MAX_BEDS, MAX_CAN, MAX_LITRES, MAX_PLACE
from canpath.gardens import garden_error, is_garden
from tests import plain
from tests.makers import G, LONG, NUMBERS, S, STRANGE, Dice, changed, some_garden, spread_garden

ENDS = (-MAX_PLACE, MAX_PLACE)


class GardenCase(unittest.TestCase):
    def check(self, value, error):
        before = repr(value)
        with self.subTest(value=before[:200]):
            self.assertEqual(garden_error(value), error)
            self.assertIs(is_garden(value), error is None)
            # Nothing may be left over from the calls before.
            self.assertEqual(garden_error(value), error)
            self.assertEqual(repr(value), before)


class RightGardens(GardenCase):
    def test_no_bed_to_twelve_beds(self):
        dice = Dice(4)
        for many in range(MAX_BEDS + 1):
            for _ in range(10):
                garden = some_garden(dice, many)
                self.assertEqual(len(garden[2]), many)
                self.check(garden, None)

    def test_both_ends_of_the_path(self):
        for many in range(MAX_BEDS + 1):
            for tap in (*ENDS, 0):
                self.check(spread_garden(many, tap), None)
        self.check((MAX_PLACE, 1, ((-MAX_PLACE, 1), (MAX_PLACE, 1))), None)

    def test_least_and_greatest_numbers(self):
        for can in (1, MAX_CAN):
            for litres in (1, MAX_LITRES):
                self.check((0, can, ((0, litres),)), None)

    def test_a_bed_at_the_tap(self):
        self.check((3, 2, ((1, 1), (3, 2))), None)


class WrongParts(GardenCase):
    def test_not_three_items(self):
        for value in ((), (0,), (0, 2), (0, 2, (), ()), (S,), (S, S, S, S)):
            self.check(value, (None, "garden"))

    def test_lists_instead_of_tuples(self):
        self.check([0, 2, ((1, 1),)], (None, "garden"))
        self.check((0, 2, []), (None, "beds"))
        self.check((0, 2, [(1, 1)]), (None, "beds"))
        self.check((0, 2, ([1, 1], (3, 2))), (0, "bed"))
        self.check((0, 2, ((1, 1), [3, 2])), (1, "bed"))

    def test_values_of_other_kinds(self):
        for value in STRANGE:
            expected = "tap" if isinstance(value, tuple) and len(value) == 3 else "garden"
            self.check(value, (None, expected))
            self.check((value, 2, ((1, 1), (3, 2))), (None, "tap"))
            self.check((0, value, ((1, 1), (3, 2))), (None, "can"))
            self.check((0, 2, ((value, 1), (3, 2))), (0, "bed"))
            self.check((0, 2, ((1, 1), (3, value))), (1, "bed"))
            self.check((0, 2, ((1, 1), value)), (1, "bed"))
            if not isinstance(value, tuple):
                self.check((0, 2, value), (None, "beds"))
        for number in NUMBERS:
            self.check(number, (None, "garden"))
            self.check((0, 2, number), (None, "beds"))
            self.check((0, 2, (number,)), (0, "bed"))

    def test_numbers_beyond_the_limits(self):
        for place in (MAX_PLACE + 1, -MAX_PLACE - 1, LONG, -LONG):
            self.check((place, 2, ()), (None, "tap"))
            self.check((0, 2, ((place, 1),)), (0, "bed"))
        for can in (0, -1, MAX_CAN + 1, LONG, -LONG):
            self.check((0, can, ()), (None, "can"))
        for litres in (0, -1, MAX_LITRES + 1, LONG, -LONG):
            self.check((0, 2, ((1, litres),)), (0, "bed"))

    def test_twelve_and_thirteen_beds(self):
        for many in range(MAX_BEDS - 1, MAX_BEDS + 4):
            beds = tuple((place, 1) for place in range(many))
            self.check((0, 2, beds), None if many <= MAX_BEDS else (None, "beds"))

    def test_beds_of_other_lengths(self):
        for bed in ((), (1,), (1, 1, 1), ((1, 1),)):
            self.check((0, 2, (bed,)), (0, "bed"))

    def test_equal_and_falling_places(self):
        beds = spread_garden(MAX_BEDS, 0)[2]
        for index in range(1, MAX_BEDS):
            for place in (beds[index - 1][0], beds[index - 1][0] - 1, beds[0][0], -MAX_PLACE):
                wrong = beds[:index] + ((place, 1),) + beds[index + 1:]
                self.check((0, 2, wrong), (index, "bed"))
            turned = beds[:index - 1] + (beds[index], beds[index - 1]) + beds[index + 1:]
            self.check((0, 2, turned), (index, "bed"))
        # Only the places count: equal places are wrong however the litres stand.
        self.check((0, 2, ((1, 1), (1, 2))), (1, "bed"))
        self.check((0, 2, ((1, 2), (1, 1))), (1, "bed"))
        self.check((0, 2, ((1, 2), (2, 1))), None)


class SeveralErrors(GardenCase):
    def test_the_one_listed_first_is_told(self):
        wrong_bed = ((1, 0),)
        thirteen = (None,) * 13
        self.check(("a", 0, thirteen, 1), (None, "garden"))
        self.check(("a", 0, thirteen), (None, "tap"))
        self.check(("a", 2, wrong_bed), (None, "tap"))
        self.check((0, 0, thirteen), (None, "can"))
        self.check((0, 0, wrong_bed), (None, "can"))
        self.check((0, 2, thirteen), (None, "beds"))
        self.check((0, 2, wrong_bed * 13), (None, "beds"))

    def test_the_first_wrong_bed_is_told(self):
        beds = spread_garden(MAX_BEDS, 0)[2]
        for first in range(MAX_BEDS):
            for second in range(first + 1, MAX_BEDS):
                for wrong in (None, (0, 0), (0, True), (MAX_PLACE + 1, 1)):
                    value = list(beds)
                    value[first] = value[second] = wrong
                    self.check((0, 2, tuple(value)), (first, "bed"))
        self.check((0, 2, ((5, 1), (4, 1), None)), (1, "bed"))
        self.check((0, 2, ((5, 1), None, (4, 1))), (1, "bed"))


class ChangedGardens(GardenCase):
    def test_one_change_at_any_depth(self):
        dice = Dice(44)
        others = (None, True, False, "", [], {}, (), (1, 1), (1, 2, 3), 0, 1, -1, MAX_CAN + 1, LONG)
        for many in range(MAX_BEDS + 1):
            for value in changed(some_garden(dice, many), others):
                self.check(value, plain.garden_error(value))

    def test_changes_of_the_examples(self):
        for garden in (S, G, (-7, 1, ())):
            for value in changed(garden, STRANGE + NUMBERS):
                self.check(value, plain.garden_error(value))


class TrueIsNotOne(GardenCase):
    """Promise 3, for gardens."""

    def test_one_then_true_then_one(self):
        for one, other in ((1, True), (0, False)):
            for tap in (one, other, one):
                self.check((tap, 2, ()), (None, "tap") if tap is other else None)
            for place in (one, other, one):
                self.check((0, 2, ((place, 1),)), (0, "bed") if place is other else None)
        for litres in (1, True, 1):
            self.check((0, litres, ()), (None, "can") if litres is True else None)
            self.check((0, 2, ((-1, 1), (1, litres))), (1, "bed") if litres is True else None)
        self.check((0, False, ()), (None, "can"))
        self.check((0, 2, ((1, False),)), (0, "bed"))


if __name__ == "__main__":
    unittest.main()
