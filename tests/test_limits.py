"""Promise 17: bounds."""

import unittest

from canpath.bounds import LIMIT
from canpath.errors import BadNumber
from canpath.limits import Bound
from tests.makers import LONG, STRANGE, S, error_of

RIGHT = (0, 1, 2, 9, 10 ** 6, LIMIT // 2, LIMIT - 1, LIMIT)
WRONG = STRANGE + (-1, LIMIT + 1, LONG, -LONG, S, (1,), [5], "9", 9.0)


class Bounds(unittest.TestCase):
    def test_most(self):
        for most in RIGHT:
            self.assertEqual(Bound(most).most, most)
            self.assertIs(type(Bound(most).most), int)

    def test_values_that_are_no_bounds(self):
        for value in WRONG:
            with self.subTest(value=repr(value)[:80]):
                with self.assertRaises(BadNumber) as caught:
                    Bound(value)
                self.assertIs(caught.exception.value, value)

    def test_room(self):
        for most in RIGHT:
            bound = Bound(most)
            for number in sorted({*RIGHT, max(0, most - 1), min(LIMIT, most + 1)}):
                with self.subTest(most=most, number=number):
                    if number <= most:
                        self.assertEqual(bound.room(number), most - number)
                    else:
                        self.assertEqual(error_of(bound.room, number), ("TooLong", number))
            self.assertEqual(bound.most, most)

    def test_room_for_values_that_are_no_numbers(self):
        for most in (0, 9, LIMIT):
            bound = Bound(most)
            for value in WRONG:
                with self.subTest(most=most, value=repr(value)[:80]):
                    with self.assertRaises(BadNumber) as caught:
                        bound.room(value)
                    self.assertIs(caught.exception.value, value)
            self.assertEqual((bound.most, bound.room(most)), (most, 0))

    def test_bad_number_before_too_long(self):
        self.assertEqual(error_of(Bound(5).room, LIMIT + 1), ("BadNumber", LIMIT + 1))
        self.assertEqual(error_of(Bound(5).room, LIMIT), ("TooLong", LIMIT))

    def test_true_behind_one(self):
        bound = Bound(5)
        for number in (1, True, 1, 0, False, 0):
            if type(number) is bool:
                self.assertRaises(BadNumber, Bound, number)
                self.assertRaises(BadNumber, bound.room, number)
            else:
                self.assertEqual((Bound(number).most, bound.room(number)), (number, 5 - number))

    def test_two_bounds(self):
        one, other = Bound(3), Bound(8)
        self.assertEqual((one.most, one.room(2), other.most, other.room(2)), (3, 1, 8, 6))


if __name__ == "__main__":
    unittest.main()
