"""Promise 12: the numbers of plans, and all plans one after another."""

import unittest
from itertools import product

from canpath.bounds import MAX_BEDS, MAX_CAN, MAX_LITRES, MAX_PLACE, SMALL
from canpath.counting import count_best, count_plans, each_plan
from canpath.errors import TooLarge
from tests import plain
from tests.makers import G, S, Dice, sided_gardens

NEAR = (0, 1, 2, 3, 4, 5)
FAR = (-MAX_PLACE, -7000, -1, 900, 50000, MAX_PLACE)


def shares(total, many):
    """All ways to give so many beds at least one litre of the total each."""
    return [litres for litres in product(range(1, total + 1), repeat=many) if sum(litres) == total]


def small_gardens():
    """Gardens that want none to six litres at up to six beds."""
    for total in range(SMALL + 1):
        for many in range(total + 1):
            for litres in shares(total, many):
                for places in (NEAR, FAR):
                    for can in (1, 2, 3, 6, MAX_CAN):
                        for tap in (places[many // 2], -2):
                            yield (tap, can, tuple(zip(places, litres)))


LARGE = (
    [(0, can, ((place, litres),)) for can in (1, 7, MAX_CAN) for place in (0, 5) for litres in (7, 8, 100, MAX_LITRES)]
    + [(0, 2, tuple((place, 1) for place in range(many))) for many in range(SMALL + 1, MAX_BEDS + 1)]
    + [(0, 9, ((-1, 3), (1, 4))), (0, 9, ((-1, 6), (1, 1))), (0, 9, ((-1, 1), (1, 6))), G]
    + [(3, MAX_CAN, tuple((place, MAX_LITRES) for place in range(MAX_BEDS)))]
)


class Numbers(unittest.TestCase):
    def check(self, garden):
        before = repr(garden)
        plans = plain.all_plans(garden)
        ways = [plain.way_of(garden, plan) for plan in plans]
        with self.subTest(garden=garden):
            for _ in range(2):
                self.assertEqual(count_plans(garden), len(plans))
                self.assertEqual(count_best(garden), ways.count(min(ways)))
            self.assertIs(type(count_plans(garden)), int)
            self.assertIs(type(count_best(garden)), int)
            self.assertEqual(list(each_plan(garden)), plans)
            self.assertEqual(repr(garden), before)

    def test_none_to_six_litres_at_up_to_six_beds(self):
        for garden in small_gardens():
            self.check(garden)

    def test_small_gardens_among_others(self):
        asked = [garden for garden in sided_gardens(12, each=20, litres=("few",))
                 if sum(litres for _, litres in garden[2]) <= SMALL]
        self.assertGreater(len(asked), 50)
        for garden in asked:
            self.check(garden)

    def test_numbers_that_are_known(self):
        # One bed: the partitions of a number. Beds of one litre: the partitions of a set.
        for litres, parts, groups in ((0, 1, 1), (1, 1, 1), (2, 2, 2), (3, 3, 5), (4, 5, 15), (5, 7, 52), (6, 11, 203)):
            if litres:
                self.assertEqual(count_plans((0, 6, ((5, litres),))), parts)
            ones = tuple((place, 1) for place in range(1, litres + 1))
            self.assertEqual(count_plans((0, 6, ones)), groups)
            self.assertEqual(count_plans((0, MAX_CAN, ones)), groups)
            self.assertEqual(count_best((0, 6, ones)), 1)
            self.assertEqual(count_plans((0, 1, ones)), 1)

    def test_no_beds(self):
        for tap in (-MAX_PLACE, 0, MAX_PLACE):
            self.assertEqual(count_plans((tap, 1, ())), 1)
            self.assertEqual(count_best((tap, 1, ())), 1)
            self.assertEqual(list(each_plan((tap, 1, ()))), [()])

    def test_all_plans_are_best_at_the_tap(self):
        for litres, parts in ((1, 1), (2, 2), (3, 3), (4, 5), (5, 7), (6, 11)):
            self.assertEqual(count_best((9, 6, ((9, litres),))), parts)


class LargeGardens(unittest.TestCase):
    def check(self, garden, ask):
        with self.subTest(garden=garden):
            with self.assertRaises(TooLarge) as caught:
                ask(garden)
            self.assertIs(type(caught.exception), TooLarge)
            self.assertEqual(caught.exception.bound, SMALL)

    def test_counts(self):
        for garden in LARGE:
            self.check(garden, count_plans)
            self.check(garden, count_best)

    def test_each_plan(self):
        for garden in LARGE:
            self.check(garden, lambda asked: next(each_plan(asked)))
            self.check(garden, lambda asked: list(each_plan(asked)))

    def test_small_and_large_in_turn(self):
        for _ in range(3):
            self.check(G, count_plans)
            self.assertEqual(count_plans(S), 3)
            self.check(G, lambda asked: list(each_plan(asked)))
            self.assertEqual(len(list(each_plan(S))), 3)


class EachPlan(unittest.TestCase):
    many = (0, 4, ((-2, 1), (0, 2), (1, 1), (5, 2)))

    def test_all_plans_of_the_example(self):
        plans = [
            ((((1, 1),), 1), (((3, 1),), 2)),
            ((((1, 1),), 1), (((3, 2),), 1)),
            ((((1, 1), (3, 1)), 1), (((3, 1),), 1)),
        ]
        self.assertEqual(list(each_plan(S)), plans)

    def test_each_once_and_ascending(self):
        dice = Dice(13)
        for _ in range(60):
            beds = tuple((2 * index, 1 + dice.throw(2)) for index in range(1 + dice.throw(3)))
            garden = (dice.throw(9) - 2, 1 + dice.throw(6), beds)
            plans = list(each_plan(garden))
            self.assertEqual(plans, sorted(set(plans)))
            self.assertTrue(all(plain.is_plan(garden, plan) for plan in plans))
            self.assertEqual(list(each_plan(garden)), plans)

    def test_one_after_another(self):
        plans = plain.all_plans(self.many)
        going = each_plan(self.many)
        self.assertIs(iter(going), going)
        self.assertEqual([next(going) for _ in plans], plans)
        self.assertRaises(StopIteration, next, going)

    def test_two_at_once(self):
        plans = plain.all_plans(self.many)
        one, other, third = each_plan(self.many), each_plan(self.many), each_plan(S)
        self.assertEqual([next(one), next(one), next(other), next(third)], plans[:2] + plans[:1] + [next(each_plan(S))])
        self.assertEqual(list(zip(one, other)), list(zip(plans[2:], plans[1:])))
        self.assertEqual(len(list(third)), 2)

    def test_one_that_is_left_early(self):
        plans = plain.all_plans(self.many)
        for many in (0, 1, 5):
            going = each_plan(self.many)
            self.assertEqual([next(going) for _ in range(many)], plans[:many])
            going.close()
            self.assertEqual(list(each_plan(self.many)), plans)
            self.assertEqual(count_plans(self.many), len(plans))


if __name__ == "__main__":
    unittest.main()
