"""Promises 14, 16 and 17: new plots, with and without a bound, what they tell, and which are equal."""

import unittest

from canpath.bounds import LIMIT, MAX_BEDS, MAX_CAN, MAX_EDITS
from canpath.errors import BadGarden, BadNumber
from canpath.limits import Bound
from canpath.plots import BoundedPlot, Plot
from canpath.texts import garden_text
from canpath.values import Load, Walker
from tests import plain
from tests.makers import (
    G, LONG, NUMBERS, S, STRANGE, Dice, changed, do_edit, error_of, gardens_at_the_bounds, sided_gardens, some_edit,
    some_garden, shown,
)

WRONG_NUMBERS = STRANGE + (-1, LIMIT + 1, LONG, -LONG, S)


def some_values(seed):
    """Gardens, and values that are none: with something replaced at any depth, also two wrong parts at once."""
    dice = Dice(seed)
    others = (None, True, False, "", [], {}, (), (1, 1), 0, 1, -1, MAX_CAN + 1, LONG)
    values = list(STRANGE + NUMBERS + (Plot(S), BoundedPlot(S, 9), Load(()), Walker(S), garden_text(S)))
    for garden in (S, G, (-7, 1, ()), some_garden(dice, 4), some_garden(dice, MAX_BEDS)):
        one_change = list(changed(garden, others))
        values += one_change
        for _ in range(100):
            values.append(dice.pick(list(changed(dice.pick(one_change), others[:6]))))
    return values


class NewPlots(unittest.TestCase):
    def test_attributes(self):
        for garden in sided_gardens(1, each=2) + gardens_at_the_bounds():
            way, trips = plain.least_way(garden), plain.fewest_trips(garden)
            for plot in (Plot(garden), BoundedPlot(garden, way), BoundedPlot(garden, LIMIT)):
                with self.subTest(garden=garden):
                    self.assertEqual((plot.garden, plot.way, plot.trips, len(plot)), (garden, way, trips, 0))
                    self.assertEqual(str(plot), plain.plot_text(garden, 0))
                    self.assertEqual((plot.edits(), plot.state(), plot.state(version=0)), ((), garden, garden))

    def test_values_that_are_no_gardens(self):
        for value in some_values(2):
            error, before = plain.garden_error(value), repr(value)
            with self.subTest(value=before[:200]):
                if error is None:
                    self.assertEqual(Plot(value).garden, value)
                    self.assertEqual(BoundedPlot(value, LIMIT).garden, value)
                else:
                    self.assertEqual(error_of(Plot, value), ("BadGarden", error))
                    self.assertEqual(error_of(BoundedPlot, value, LIMIT), ("BadGarden", error))
                    # The garden is looked at before the bound.
                    self.assertEqual(error_of(BoundedPlot, value, None), ("BadGarden", error))
                self.assertEqual(repr(value), before)

    def test_true_behind_one(self):
        for one in (1, True, 1):
            for garden in ((one, 2, ()), (0, one, ()), (0, 2, ((one, 1),)), (0, 2, ((1, one),))):
                if one is True:
                    self.assertRaises(BadGarden, Plot, garden)
                else:
                    self.assertEqual(Plot(garden).garden, garden)

    def test_most_edits(self):
        self.assertEqual((Plot.MOST_EDITS, Plot(S).MOST_EDITS, BoundedPlot.MOST_EDITS), (MAX_EDITS,) * 3)
        self.assertEqual(Plot.MOST_EDITS, 60)
        self.assertIs(type(Plot.MOST_EDITS), int)


class NewBoundedPlots(unittest.TestCase):
    def test_bounds_just_kept_and_one_less(self):
        for garden in sided_gardens(3, each=1) + gardens_at_the_bounds()[::3]:
            way = plain.least_way(garden)
            for most in (way, way + 1, LIMIT):
                plot = BoundedPlot(garden, most)
                self.assertEqual((plot.most, plot.room(way), plot.garden), (most, most - way, garden))
            for most in (way - 1, way // 2, 0):
                if 0 <= most < way:
                    self.assertEqual(error_of(BoundedPlot, garden, most), ("TooLong", way))

    def test_bad_number_before_too_long(self):
        for value in WRONG_NUMBERS:
            with self.subTest(value=repr(value)[:80]):
                for garden in (S, (0, 1, ())):
                    with self.assertRaises(BadNumber) as caught:
                        BoundedPlot(garden, value)
                    self.assertIs(caught.exception.value, value)

    def test_kinds(self):
        plot = BoundedPlot(S, 8)
        self.assertTrue(issubclass(BoundedPlot, Plot) and issubclass(BoundedPlot, Bound))
        self.assertTrue(isinstance(plot, Plot) and isinstance(plot, Bound))
        self.assertFalse(isinstance(Plot(S), Bound) or issubclass(Plot, Bound) or issubclass(Bound, Plot))

    def test_room(self):
        plot, bound = BoundedPlot(S, 10), Bound(10)
        for number in (0, 1, 9, 10, 11, LIMIT) + WRONG_NUMBERS:
            with self.subTest(number=repr(number)[:80]):
                self.assertEqual(error_of(plot.room, number), error_of(bound.room, number))
                if error_of(plot.room, number) is None:
                    self.assertEqual(plot.room(number), 10 - number)


class EqualPlots(unittest.TestCase):
    def plots(self, garden):
        """Plots of one garden by different edits, and with different bounds; the last item is the bound or None."""
        way = plain.least_way(garden)
        edited = Plot((5, 9, ((-2, 7),)))
        edited.attempt([("want", -2, 0), ("move", garden[0]), ("fill", garden[1])])
        edited.attempt([("want", place, litres) for place, litres in garden[2]])
        undone = Plot(garden)
        undone.attempt([("move", 3), ("want", 1, 1)])
        undone.undo(), undone.undo()
        bounded = BoundedPlot(garden, LIMIT)
        bounded.want(10 ** 6, 0)
        return [(Plot(garden), None), (edited, None), (undone, None), (BoundedPlot(garden, way), way),
                (BoundedPlot(garden, way), way), (BoundedPlot(garden, way + 1), way + 1), (bounded, LIMIT),
                (BoundedPlot(garden, LIMIT), LIMIT)]

    def test_equal_gardens(self):
        for garden in (S, G, (-7, 1, ()), some_garden(Dice(4), MAX_BEDS)):
            for one, bound in self.plots(garden):
                for other, other_bound in self.plots(garden):
                    self.assertIs(one == other, bound == other_bound)
                    self.assertIs(one != other, bound != other_bound)

    def test_other_gardens(self):
        dice = Dice(5)
        gardens = [S, G, (1, 2, S[2]), (0, 3, S[2]), (0, 2, S[2][:1]), (0, 2, ()), (0, 2, ((1, 1), (3, 3))),
                   (0, 2, ((1, 1), (4, 2))), some_garden(dice, 3), some_garden(dice, MAX_BEDS)]
        for garden in gardens:
            for other in gardens:
                self.assertIs(Plot(garden) == Plot(other), garden == other)
                self.assertIs(Plot(garden) != Plot(other), garden != other)
                self.assertIs(BoundedPlot(garden, LIMIT) == BoundedPlot(other, LIMIT), garden == other)
                self.assertIs(BoundedPlot(garden, LIMIT) == Plot(other), False)
                self.assertIs(Plot(garden) == BoundedPlot(other, LIMIT), False)

    def test_other_values(self):
        for plot in (Plot(S), BoundedPlot(S, 8), Plot((0, 1, ()))):
            values = (plot.garden, list(plot.garden), len(plot), str(plot), plot.way, Bound(8), Load(S[2]), [plot])
            for value in STRANGE + NUMBERS + values:
                self.assertIs(plot == value, False)
                self.assertIs(value == plot, False)
                self.assertIs(plot != value, True)

    def test_equal_again_after_edits(self):
        one, other = Plot(S), Plot(S)
        for edit in (("want", 2, 5), ("move", 1), ("fill", 7)):
            do_edit(one, edit)
            self.assertIs(one == other, False)
            do_edit(other, edit)
            self.assertIs(one == other, True)
        one.undo()
        self.assertIs(one == other, False)


class ReadPlots(unittest.TestCase):
    def test_texts_of_gardens(self):
        for garden in sided_gardens(6, each=1) + [S, G, (-7, 1, ())]:
            plot = Plot.read(garden_text(garden))
            self.assertIs(type(plot), Plot)
            self.assertEqual(shown(plot), shown(Plot(garden)))
            self.assertEqual(plot, Plot(garden))

    def test_changed_texts(self):
        for text in ("0 2 1:1,3:2", "-7 1 none", "-10 20 -12:30,-1:9,100:10"):
            for at in range(len(text) + 1):
                for value in (text[:at] + text[at + 1:], *[text[:at] + sign + text[at:] for sign in "0-: ,1"]):
                    error = plain.text_error(value)
                    if error is None:
                        self.assertEqual(garden_text(Plot.read(value).garden), value)
                    else:
                        self.assertEqual(error_of(Plot.read, value), ("BadText", *error))

    def test_other_values(self):
        for value in STRANGE + NUMBERS + (S, Plot(S), b"0 2 none"):
            if not isinstance(value, str) or plain.text_error(value) is not None:
                self.assertEqual(error_of(Plot.read, value), ("BadText", *plain.text_error(value)))

    def test_each_call_makes_a_new_plot(self):
        one, other = Plot.read("0 2 1:1"), Plot.read("0 2 1:1")
        one.move(5)
        self.assertEqual((one.garden[0], other.garden[0]), (5, 0))


class PlotsAlone(unittest.TestCase):
    def test_plots_of_one_garden_change_alone(self):
        dice = Dice(7)
        for many in range(MAX_BEDS):
            garden = some_garden(dice, many, small=True)
            one, other = Plot(garden), Plot(garden)
            before = shown(other)
            for _ in range(6):
                error_of(do_edit, one, some_edit(dice, one.garden))
            self.assertEqual(shown(other), before)

    def test_results_do_not_change_later(self):
        plot = Plot(S)
        plot.want(2, 5)
        garden, edits, state = plot.garden, plot.edits(), plot.state()
        plot.move(4)
        plot.undo()
        plot.undo()
        self.assertEqual(garden, (0, 2, ((1, 1), (2, 5), (3, 2))))
        self.assertEqual((state, edits), (garden, (("want", 2, 5),)))


if __name__ == "__main__":
    unittest.main()
