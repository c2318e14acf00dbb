"""Promise 13: walkers, who are told trips."""

import unittest

from canpath.bounds import MAX_BEDS, MAX_CAN, MAX_LITRES, MAX_PLACE
from canpath.errors import BadGarden, BadTrip, TooWet
from canpath.trips import is_trip, way_of
from canpath.values import Load, Walker
from canpath.ways import best_plan, fewest_trips, least_way
from tests import plain
from tests.makers import (
    G, LONG, NUMBERS, S, STRANGE, Dice, changed, each_made, error_of, sided_gardens, some_garden, some_plan, some_trip,
    spread_garden,
)


def shown(walker):
    return walker.left.rows, walker.way, walker.trips


def shuffled(dice, items):
    items = list(items)
    for index in range(len(items)):
        other = index + dice.throw(len(items) - index)
        items[index], items[other] = items[other], items[index]
    return items


class WalkerCase(unittest.TestCase):
    def check_call(self, walker, garden, value):
        """The call does what a slow count of the litres says; returns whether the trip was made."""
        left, way, trips = shown(walker)
        kept, kept_rows, trips_before, before = walker.left, left, trips, repr(value)
        wet = []
        if plain.is_trip(garden, value):
            wet = [place for place, litres in value if litres > dict(left).get(place, 0)]
        with self.subTest(garden=garden, value=before[:200]):
            if not plain.is_trip(garden, value):
                with self.assertRaises(BadTrip) as caught:
                    walker(value)
                self.assertIs(caught.exception.value, value)
            elif wet:
                with self.assertRaises(TooWet) as caught:
                    walker(value)
                self.assertEqual(caught.exception.place, wet[0])
            else:
                walked = plain.way_of_trip(garden, value)
                self.assertEqual(walker(value), walked)
                brought = dict(value)
                left = tuple((place, litres - brought.get(place, 0)) for place, litres in left
                             if litres > brought.get(place, 0))
                way, trips = way + walked, trips + 1
            self.assertEqual(shown(walker), (left, way, trips))
            self.assertIs(type(walker.left), Load)
            self.assertEqual(repr(value), before)
        # The load that left was before is another value and stays.
        self.assertEqual(kept.rows, kept_rows)
        return trips > trips_before


class NewWalkers(WalkerCase):
    def test_what_is_left_at_the_beginning(self):
        for garden in sided_gardens(1, each=1) + [spread_garden(many, 0) for many in range(MAX_BEDS + 1)]:
            walker = Walker(garden)
            self.assertEqual(shown(walker), (garden[2], 0, 0))
            self.assertEqual(walker.left, Load(garden[2]))

    def test_values_that_are_no_gardens(self):
        dice = Dice(2)
        others = (None, True, False, "", [], {}, (), (1, 1), 0, 1, -1, MAX_CAN + 1, LONG)
        values = list(STRANGE + NUMBERS + (Load(((1, 1),)), Walker(S)))
        for garden in (S, G, some_garden(dice, 5), some_garden(dice, MAX_BEDS), (-7, 1, ())):
            values += list(changed(garden, others))
        values += [(None, 0, ()), (0, 0, None), (0, 2, ((1, 1),) * 13), (0, 2, ((2, 1), (1, 0)))]
        for value in values:
            error, before = plain.garden_error(value), repr(value)
            with self.subTest(value=before[:200]):
                if error is None:
                    self.assertEqual(shown(Walker(value)), (value[2], 0, 0))
                else:
                    with self.assertRaises(BadGarden) as caught:
                        Walker(value)
                    self.assertEqual(caught.exception.error, error)
                self.assertEqual(repr(value), before)


class Trips(WalkerCase):
    def some_call(self, dice, garden, left):
        """A trip that brings what is wanted, less or more, or a value that is none."""
        tap, can, beds = garden
        kind = dice.throw(8)
        if kind == 0:
            return dice.pick(STRANGE + NUMBERS + ((), garden, beds))
        if kind == 1 and beds:
            return some_trip(dice, garden, dict(beds))
        if kind == 2 and beds:
            return tuple((place, 1) for place, _ in beds)
        if kind == 3 and beds:
            return ((dice.pick(beds)[0], can),)
        if kind == 4 and beds:
            return dice.pick(list(changed(some_trip(dice, garden, dict(beds)), (0, 1, True, None, (), can, can + 1))))
        if left:
            return some_trip(dice, garden, left)
        return ((tap, 1),)

    def test_calls_of_all_kinds(self):
        dice = Dice(3)
        made = 0
        for garden in sided_gardens(4, each=2):
            walker = Walker(garden)
            for _ in range(12):
                made += self.check_call(walker, garden, self.some_call(dice, garden, dict(walker.left.rows)))
        self.assertGreater(made, 1000)

    def test_changed_trips(self):
        others = STRANGE + NUMBERS + ((1, 1), (3, 2), ((3, 2),))
        for value in changed(((1, 1), (3, 1)), others):
            self.check_call(Walker(S), S, value)

    def test_places_at_the_tap_and_below_0(self):
        garden = (-5, 4, ((-9, 3), (-5, 6), (-2, 2)))
        walker = Walker(garden)
        told = [walker(((-5, 4),)), walker(((-9, 1), (-5, 2), (-2, 1))), walker(((-9, 2),)), walker(((-2, 1),))]
        self.assertEqual(told, [0, 14, 8, 6])
        self.assertEqual(shown(walker), ((), 28, 4))

    def test_both_ends_of_the_path(self):
        garden = (0, MAX_CAN, ((-MAX_PLACE, MAX_LITRES), (MAX_PLACE, MAX_LITRES)))
        walker = Walker(garden)
        self.assertEqual(walker(((-MAX_PLACE, 1), (MAX_PLACE, MAX_CAN - 1))), 4 * MAX_PLACE)
        self.assertEqual(walker.left.rows, ((-MAX_PLACE, MAX_LITRES - 1), (MAX_PLACE, MAX_LITRES - MAX_CAN + 1)))
        self.assertEqual(error_of(walker, ((-MAX_PLACE, MAX_CAN + 1),)), ("BadTrip", ((-MAX_PLACE, MAX_CAN + 1),)))

    def test_too_wet_with_the_first_such_place(self):
        garden = (0, 9, ((1, 2), (3, 2), (6, 2)))
        walker = Walker(garden)
        self.assertEqual(error_of(walker, ((1, 3), (3, 3), (6, 3))), ("TooWet", 1))
        self.assertEqual(error_of(walker, ((1, 2), (3, 2), (6, 3))), ("TooWet", 6))
        self.assertEqual(walker(((3, 2),)), 6)
        # Nothing is wanted at 3 any more, but a trip may still name the bed.
        self.assertEqual(error_of(walker, ((1, 2), (3, 1), (6, 3))), ("TooWet", 3))
        self.assertEqual(error_of(walker, ((3, 1),)), ("TooWet", 3))
        self.assertEqual(shown(walker), (((1, 2), (6, 2)), 6, 1))

    def test_bad_trip_before_too_wet(self):
        walker = Walker(S)
        for value in (((1, 3),), ((3, 2), (1, 2)), ((1, 2), (3, 2)), ((1, 2), (3, True)), [(1, 2)], ((1, 2), (2, 1))):
            self.assertEqual(error_of(walker, value), ("BadTrip", value))
        self.assertEqual(error_of(walker, ((1, 2),)), ("TooWet", 1))

    def test_true_behind_one(self):
        walker = Walker((0, 3, ((1, 3), (2, 3))))
        for value in (((1, 1),), ((True, 1),), ((1, True),), ((1, 1), (2, True)), ((1, 1), (2, 1))):
            self.check_call(walker, (0, 3, ((1, 3), (2, 3))), value)
        self.assertEqual(walker.trips, 2)

    def test_a_garden_without_beds(self):
        walker = Walker((4, 7, ()))
        for value in ((), ((4, 1),), ((1, 1),), None):
            self.assertEqual(error_of(walker, value), ("BadTrip", value))
        self.assertEqual(shown(walker), ((), 0, 0))


class WholePlans(WalkerCase):
    def test_best_plans_in_any_order(self):
        dice = Dice(5)
        walked = 0
        for garden in sided_gardens(6, each=2, litres=("few", "around the can")):
            plan = best_plan(garden)
            trips = each_made(plan)
            if len(trips) > 200:
                continue
            walked += 1
            for order in (trips, trips[::-1], shuffled(dice, trips), shuffled(dice, trips)):
                walker = Walker(garden)
                for trip in order:
                    self.assertEqual(walker(trip), plain.way_of_trip(garden, trip))
                self.assertEqual(shown(walker), ((), least_way(garden), fewest_trips(garden)))
        self.assertGreater(walked, 150)

    def test_other_plans(self):
        dice = Dice(7)
        for many in range(MAX_BEDS + 1):
            garden = some_garden(dice, many, small=True)
            plan = some_plan(dice, garden)
            walker = Walker(garden)
            for trip in shuffled(dice, each_made(plan)):
                walker(trip)
            self.assertEqual(shown(walker), ((), way_of(garden, plan), len(each_made(plan))))
            self.assertGreaterEqual(walker.way, least_way(garden))
            self.assertGreaterEqual(walker.trips, fewest_trips(garden))
            # Whatever is brought now is too much.
            for place, _ in garden[2]:
                self.assertEqual(error_of(walker, ((place, 1),)), ("TooWet", place))


class SeveralWalkers(WalkerCase):
    def test_two_walkers_in_one_garden(self):
        one, other = Walker(G), Walker(G)
        one(((2, 3),))
        self.assertEqual(shown(one), (((2, 1), (5, 1), (6, 3)), 4, 1))
        self.assertEqual(shown(other), (G[2], 0, 0))
        other(((5, 1), (6, 2)))
        self.assertEqual(shown(one), (((2, 1), (5, 1), (6, 3)), 4, 1))
        self.assertEqual(shown(other), (((2, 4), (6, 1)), 12, 1))

    def test_loads_that_left_was_before(self):
        walker = Walker(G)
        kept = [walker.left]
        for trip in (((2, 3),), ((2, 1), (5, 1)), ((6, 1),), ((6, 2),)):
            self.assertIs(is_trip(G, trip), True)
            walker(trip)
            self.assertRaises((TooWet, BadTrip), walker, ((2, 3),))
            kept.append(walker.left)
        told = [load.rows for load in kept]
        self.assertEqual(told, [G[2], ((2, 1), (5, 1), (6, 3)), ((6, 3),), ((6, 2),), ()])
        for before, after in zip(kept, kept[1:]):
            self.assertIs(after in before, True)
            self.assertIs(before in after, False)


if __name__ == "__main__":
    unittest.main()
