"""Promise 13: loads."""

import unittest

from canpath.bounds import LIMIT, MAX_PLACE, MAX_ROWS
from canpath.errors import BadLoad, Missing, NoPlace, TooMuch
from canpath.values import Load
from tests import plain
from tests.makers import G, LONG, NUMBERS, S, STRANGE, Dice, changed, some_rows

SIZES = (0, 1, 2, 3, 12, MAX_ROWS - 1, MAX_ROWS)
MOST = (1, 9, 5000, LIMIT)


def cases(seed):
    """Rows of none to fifty places, near and far, with few litres and many."""
    dice = Dice(seed)
    return [some_rows(dice, many, far, most) for many in SIZES for far in (False, True) for most in MOST]


def line(many, first=0, litres=1):
    """Rows at so many places, one beside the other."""
    return tuple((first + index, litres) for index in range(many))


class LoadCase(unittest.TestCase):
    def check_refused(self, value):
        before = repr(value)
        with self.subTest(value=before[:200]):
            with self.assertRaises(BadLoad) as caught:
                Load(value)
            self.assertIs(caught.exception.value, value)
            self.assertEqual(repr(value), before)

    def check_value(self, value):
        """The value is taken exactly if it is rows of a load."""
        if plain.are_rows(value):
            self.assertIs(Load(value).rows, value)
        else:
            self.check_refused(value)


class MakingLoads(LoadCase):
    def test_rows_total_and_len(self):
        for rows in cases(1):
            with self.subTest(rows=rows):
                load = Load(rows)
                self.assertEqual(load.rows, rows)
                self.assertIs(type(load.rows), tuple)
                self.assertEqual(load.total, sum(litres for _, litres in rows))
                self.assertEqual(len(load), len(rows))

    def test_the_empty_load(self):
        load = Load(())
        self.assertEqual((load.rows, load.total, len(load), str(load)), ((), 0, 0, ""))

    def test_at_the_limits(self):
        for rows in (((-MAX_PLACE, 1),), ((MAX_PLACE, LIMIT),), line(MAX_ROWS), line(MAX_ROWS, litres=LIMIT)):
            self.assertEqual(Load(rows).rows, rows)
        self.assertEqual(Load(line(MAX_ROWS, litres=LIMIT)).total, MAX_ROWS * LIMIT)

    def test_fifty_one_rows(self):
        self.check_refused(line(MAX_ROWS + 1))
        self.check_refused(line(MAX_ROWS + 1) + (None,))

    def test_places_twice_or_in_another_order(self):
        for rows in (((1, 1), (1, 1)), ((1, 1), (1, 2)), ((1, 2), (1, 1)), ((3, 1), (1, 1)), ((1, 1), (3, 1), (2, 1))):
            self.check_refused(rows)
        for index in range(1, MAX_ROWS):
            rows = line(MAX_ROWS)
            self.check_refused(rows[:index - 1] + (rows[index], rows[index - 1]) + rows[index + 1:])

    def test_numbers_beyond_the_limits(self):
        for place in (MAX_PLACE + 1, -MAX_PLACE - 1, LONG, -LONG):
            self.check_refused(((place, 1),))
        for litres in (0, -1, LIMIT + 1, LONG, -LONG):
            self.check_refused(((1, litres),))
            self.check_refused(((1, 1), (2, litres)))

    def test_true_is_not_one(self):
        for value in (1, True, 1):
            for rows in (((value, 1),), ((0, 1), (value, 1)), ((5, value),), ((1, 1), (2, value))):
                self.check_value(rows)
        self.check_refused(((False, 1),))
        self.check_refused(((1, False),))

    def test_lists_and_other_values(self):
        self.check_refused([(1, 1)])
        self.check_refused(([1, 1],))
        for value in STRANGE + NUMBERS + (S, G, Load(((1, 1),))):
            self.check_refused(value)
            self.check_refused((value,))
            self.check_value(((value, value),))
            self.check_refused(((1, 1), value))

    def test_rows_with_something_changed(self):
        others = (None, True, False, "", [], {}, (), (1, 1), (1, 2, 3), 0, 1, -1, MAX_PLACE + 1, LIMIT, LIMIT + 1)
        dice = Dice(2)
        for many in (0, 1, 2, 3, 6):
            for value in changed(some_rows(dice, many), others):
                self.check_value(value)
        for value in changed(((1, 1), (3, 2)), STRANGE + NUMBERS):
            self.check_value(value)


class LitresAtPlaces(LoadCase):
    def test_each_place(self):
        for rows in cases(3):
            load, wanted = Load(rows), dict(rows)
            near = {place + by for place in wanted for by in (-1, 0, 1)} | {0, 1, -MAX_PLACE, MAX_PLACE}
            for place in near:
                if abs(place) <= MAX_PLACE:
                    self.assertEqual(load[place], wanted.get(place, 0), (rows, place))

    def test_what_is_no_place(self):
        beyond = (MAX_PLACE + 1, -MAX_PLACE - 1, LIMIT, LONG, -LONG)
        for load in (Load(()), Load(((0, 5), (1, 7)))):
            for value in STRANGE + beyond + ((0, 5), [0], slice(0, 1)):
                with self.subTest(value=repr(value)[:80]):
                    with self.assertRaises(NoPlace) as caught:
                        load[value]
                    self.assertIs(caught.exception.value, value)

    def test_true_behind_one(self):
        load = Load(((0, 5), (1, 7)))
        for place in (1, True, 1, 0, False, 0):
            if type(place) is bool:
                self.assertRaises(NoPlace, lambda: load[place])
            else:
                self.assertEqual(load[place], 7 if place else 5)

    def test_a_loop_raises_type_error(self):
        for load in (Load(()), Load(line(3)), Load(line(MAX_ROWS))):
            for loop in (list, tuple, iter, sorted, lambda one: [row for row in one]):
                self.assertRaises(TypeError, loop, load)


class SumsAndDifferences(LoadCase):
    def pairs(self, seed):
        """Two loads each: others, the same ones, and parts of one another."""
        dice = Dice(seed)
        for many in (0, 1, 2, 5, 25, MAX_ROWS):
            for far in (False, True):
                for most in (1, 9, LIMIT):
                    rows = some_rows(dice, many, far, most)
                    part = tuple((place, 1 + dice.throw(litres)) for place, litres in rows if dice.throw(2))
                    for other in (rows, part, (), some_rows(dice, 3), some_rows(dice, many, far, most), line(5)):
                        yield rows, other
                        yield other, rows

    def check_sum(self, rows, others):
        one, other = Load(rows), Load(others)
        litres = {place: dict(rows).get(place, 0) + dict(others).get(place, 0) for place in dict(rows + others)}
        if len(litres) > MAX_ROWS or any(many > LIMIT for many in litres.values()):
            self.assertRaises(TooMuch, lambda: one + other)
        else:
            made = one + other
            self.assertIs(type(made), Load)
            self.assertEqual(made.rows, tuple(sorted(litres.items())))
            self.assertEqual(made.total, one.total + other.total)
        self.assertEqual((one.rows, one.total, other.rows, other.total),
                         (rows, sum(dict(rows).values()), others, sum(dict(others).values())))

    def check_difference(self, rows, others):
        one, other = Load(rows), Load(others)
        left = {place: litres - dict(others).get(place, 0) for place, litres in rows}
        short = sorted(place for place, litres in others if litres > dict(rows).get(place, 0))
        if short:
            with self.assertRaises(Missing) as caught:
                one - other
            self.assertEqual(caught.exception.place, short[0])
        else:
            made = one - other
            self.assertIs(type(made), Load)
            self.assertEqual(made.rows, tuple((place, litres) for place, litres in sorted(left.items()) if litres))
            self.assertEqual(made.total, one.total - other.total)
        # Exactly what can be taken away is in the load.
        self.assertIs(other in one, not short)
        self.assertEqual((one.rows, other.rows, len(one), len(other)), (rows, others, len(rows), len(others)))

    def test_sums(self):
        for rows, others in self.pairs(4):
            with self.subTest(rows=rows, others=others):
                self.check_sum(rows, others)

    def test_differences(self):
        for rows, others in self.pairs(5):
            with self.subTest(rows=rows, others=others):
                self.check_difference(rows, others)

    def test_fifty_and_fifty_one_places(self):
        for many in range(0, MAX_ROWS + 1, 5):
            one, other = line(many), line(MAX_ROWS - many, first=many)
            self.assertEqual((Load(one) + Load(other)).rows, line(MAX_ROWS))
            self.check_sum(one, line(MAX_ROWS - many, first=many - 1) if many else other)
            further = Load(line(1, first=900))
            self.assertRaises(TooMuch, lambda: Load(one) + Load(other) + further)
        one, other = Load(line(MAX_ROWS)), Load(line(2, first=MAX_ROWS - 1))
        self.assertRaises(TooMuch, lambda: one + other)
        self.assertRaises(TooMuch, lambda: other + one)

    def test_the_limit_at_one_place(self):
        for first in (1, 2, LIMIT // 2, LIMIT - 1):
            one, other, more = (Load(((3, 1), (7, litres))) for litres in (first, LIMIT - first, LIMIT - first + 1))
            self.assertEqual((one + other).rows, ((3, 2), (7, LIMIT)))
            self.assertRaises(TooMuch, lambda: one + more)
            self.assertRaises(TooMuch, lambda: more + one)
        full = Load(line(MAX_ROWS, litres=LIMIT))
        self.assertEqual((full + Load(())).rows, full.rows)
        self.assertEqual((full - full).rows, ())

    def test_the_first_place_that_misses_litres(self):
        one = Load(((-3, 2), (0, 2), (4, 2)))
        for others, place in ((((-3, 3),), -3), (((-3, 2), (0, 3), (4, 3)), 0), (((-5, 1), (-3, 9)), -5),
                              (((-3, 1), (1, 1)), 1), (((4, 3),), 4), (((-3, 2), (0, 2), (4, 2), (5, 1)), 5)):
            with self.assertRaises(Missing) as caught:
                one - Load(others)
            self.assertEqual(caught.exception.place, place)

    def test_in_place_signs_leave_the_loads_as_they_are(self):
        one = kept = Load(((1, 1), (3, 2)))
        one += Load(((3, 1),))
        self.assertEqual((one.rows, kept.rows), (((1, 1), (3, 3)), ((1, 1), (3, 2))))
        one -= Load(((1, 1),))
        self.assertEqual((one.rows, kept.rows), (((3, 3),), ((1, 1), (3, 2))))


class PartsAndEqualLoads(LoadCase):
    def test_a_litre_or_a_place_more_or_less(self):
        for rows in cases(6):
            load = Load(rows)
            self.assertIs(load in load, True)
            self.assertIs(Load(()) in load, True)
            self.assertIs(load in Load(()), rows == ())
            for index, (place, litres) in enumerate(rows):
                head, tail = rows[:index], rows[index + 1:]
                fewer = Load(head + ((place, litres - 1),) + tail) if litres > 1 else Load(head + tail)
                self.assertIs(fewer in load, True)
                self.assertIs(load in fewer, False)
                self.assertIs(load == fewer, False)
                self.assertIs(load != fewer, True)
                # The same litres at the place beside it are another load.
                if place < MAX_PLACE and place + 1 not in dict(rows):
                    beside = Load(head + ((place + 1, litres),) + tail)
                    self.assertIs(beside in load or load in beside or beside == load, False)

    def test_equal_rows(self):
        for rows in cases(7):
            one, other = Load(rows), Load(tuple((place, litres) for place, litres in rows))
            self.assertIs(one == other, True)
            self.assertIs(one != other, False)

    def test_other_values(self):
        for load in (Load(()), Load(((1, 1),)), Load(((0, 1), (1, 1)))):
            for value in STRANGE + NUMBERS + (load.rows, list(load.rows), load.total, str(load), S, (load,), [load]):
                with self.subTest(value=repr(value)[:80]):
                    self.assertIs(value in load, False)
                    self.assertIs(load == value, False)
                    self.assertIs(value == load, False)
                    self.assertIs(load != value, True)

    def test_part_of_one_another_needs_no_same_places(self):
        one, other = Load(((-4, 2), (5, 1))), Load(((-4, 1), (5, 2)))
        self.assertIs(one in other or other in one, False)
        self.assertIs(Load(((5, 1),)) in one, True)
        self.assertIs(Load(((0, 1),)) in one, False)


class TextsOfLoads(LoadCase):
    def test_texts(self):
        for rows in cases(8):
            self.assertEqual(str(Load(rows)), plain.load_text(rows))

    def test_columns(self):
        self.assertEqual(str(Load(((-MAX_PLACE, 1),))), "-1,000,000:         1")
        self.assertEqual(str(Load(((MAX_PLACE, 999),))), " 1,000,000:       999")
        self.assertEqual(str(Load(((-999, 99999999),))), "      -999:99,999,999")
        self.assertEqual(str(Load(((0, 100000000),))), "         0:100,000,000")
        self.assertEqual(str(Load(((-1000, 1000), (1, LIMIT)))),
                         "    -1,000:     1,000\n         1:1,000,000,000,000,000,000")


class ThreeLoads(LoadCase):
    def test_laws(self):
        dice = Dice(9)
        for many in (0, 1, 3, 10, 16):
            for far in (False, True):
                for most in (1, 9, LIMIT // 3):
                    one, other, third = (Load(some_rows(dice, many, far, most)) for _ in range(3))
                    total = one + other + third
                    for made in (one + (other + third), third + other + one, other + third + one):
                        self.assertEqual(made, total)
                        self.assertEqual(made.rows, total.rows)
                    self.assertEqual(one + other - other, one)
                    self.assertEqual(total - one - third, other)
                    self.assertEqual(total - (one + third), other)
                    self.assertIs(one in total and other in total and third in total, True)

    def test_taken_away_exactly_if_it_is_in_it(self):
        dice = Dice(10)
        for _ in range(300):
            one, other = Load(some_rows(dice, dice.throw(5), False, 3)), Load(some_rows(dice, dice.throw(3), False, 2))
            third = one + other
            for less in (one, other):
                if less in third:
                    self.assertEqual(third - less + less, third)
            if other in one:
                self.assertEqual(one - other + other, one)
            else:
                self.assertRaises(Missing, lambda: one - other)

    def test_loads_made_before_stay_as_they_are(self):
        rows = cases(11)
        loads = [Load(one) for one in rows]
        before = [(load.rows, load.total, len(load), str(load)) for load in loads]
        for one in loads:
            for other in loads[:12]:
                for question in (lambda: one + other, lambda: one - other, lambda: one in other, lambda: one[0]):
                    try:
                        question()
                    except (TooMuch, Missing):
                        pass
        self.assertEqual([(load.rows, load.total, len(load), str(load)) for load in loads], before)


if __name__ == "__main__":
    unittest.main()
