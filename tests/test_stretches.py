"""Promise 5: the stretches between the marks, and the litres beyond them."""

import unittest

from canpath.bounds import MAX_BEDS, MAX_LITRES, MAX_PLACE
from canpath.gardens import stretches_of
from tests import plain
from tests.makers import Dice, some_garden, spread_garden


class Stretches(unittest.TestCase):
    def check(self, garden):
        before = repr(garden)
        with self.subTest(garden=garden):
            found = stretches_of(garden)
            self.assertEqual(found, plain.stretches_of(garden))
            self.assertIs(type(found), tuple)
            self.assertTrue(all(type(stretch) is tuple for stretch in found))
            self.assertEqual(list(found), sorted(set(found)))
            self.assertEqual(stretches_of(garden), found)
            self.assertEqual(repr(garden), before)

    def test_one_mark(self):
        for tap in (-MAX_PLACE, 0, 4, MAX_PLACE):
            self.assertEqual(stretches_of((tap, 3, ())), ())
            self.assertEqual(stretches_of((tap, 3, ((tap, 9),))), ())

    def test_two_marks(self):
        self.assertEqual(stretches_of((4, 3, ((6, 9),))), ((4, 6, 9),))
        self.assertEqual(stretches_of((6, 3, ((4, 9),))), ((4, 6, 9),))
        self.assertEqual(stretches_of((4, 3, ((4, 1), (6, 9)))), ((4, 6, 9),))
        self.assertEqual(stretches_of((6, 3, ((4, 9), (6, 1)))), ((4, 6, 9),))

    def test_tap_at_between_and_beside_the_beds(self):
        beds = ((-3, 1), (2, 10), (4, 100), (9, 1000))
        self.assertEqual(stretches_of((2, 3, beds)), ((-3, 2, 1), (2, 4, 1100), (4, 9, 1000)))
        self.assertEqual(stretches_of((3, 3, beds)), ((-3, 2, 1), (2, 3, 11), (3, 4, 1100), (4, 9, 1000)))
        self.assertEqual(stretches_of((-5, 3, beds)), ((-5, -3, 1111), (-3, 2, 1110), (2, 4, 1100), (4, 9, 1000)))
        self.assertEqual(stretches_of((10, 3, beds)), ((-3, 2, 1), (2, 4, 11), (4, 9, 111), (9, 10, 1111)))
        self.assertEqual(stretches_of((-3, 3, beds)), ((-3, 2, 1110), (2, 4, 1100), (4, 9, 1000)))
        self.assertEqual(stretches_of((9, 3, beds)), ((-3, 2, 1), (2, 4, 11), (4, 9, 111)))

    def test_no_bed_to_twelve_beds(self):
        dice = Dice(5)
        for many in range(MAX_BEDS + 1):
            for _ in range(40):
                self.check(some_garden(dice, many))

    def test_every_tap_of_a_garden(self):
        beds = some_garden(Dice(55), MAX_BEDS)[2]
        for tap in range(beds[0][0] - 2, beds[-1][0] + 3):
            self.check((tap, 1, beds))

    def test_both_ends_of_the_path(self):
        for many in range(MAX_BEDS + 1):
            for tap in (-MAX_PLACE, -1, 0, 1, MAX_PLACE):
                self.check(spread_garden(many, tap))
        wide = (MAX_PLACE, 1, ((-MAX_PLACE, MAX_LITRES),))
        self.assertEqual(stretches_of(wide), ((-MAX_PLACE, MAX_PLACE, MAX_LITRES),))

    def test_all_litres_at_their_greatest(self):
        beds = tuple((place, MAX_LITRES) for place in range(1, MAX_BEDS + 1))
        self.assertEqual(stretches_of((0, 1, beds))[0], (0, 1, MAX_BEDS * MAX_LITRES))


if __name__ == "__main__":
    unittest.main()
