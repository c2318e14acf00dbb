"""Promise 17: edits of plots whose way is bounded."""

import unittest

from canpath.bounds import LIMIT, MAX_BEDS
from canpath.errors import TooLong
from canpath.plots import BoundedPlot, Plot
from tests import plain
from tests.makers import S, Dice, do_edit, error_of, shown, some_edit, some_garden, some_wrong_edit


class BoundedCase(unittest.TestCase):
    def check_edit(self, plot, edit):
        """The bounded plot does what a plot does, but for an edit that would break the bound."""
        garden, before = plot.garden, shown(plot)
        free = Plot(garden)
        error = plain.edit_error(garden, len(plot), edit, most=plot.most)
        self.assertEqual(error_of(do_edit, plot, edit), error)
        if error is not None:
            self.assertEqual(shown(plot), before)
        told = error_of(do_edit, free, edit)
        if told is None:
            # Of what a plot accepts, exactly that is accepted after which the way keeps the bound.
            self.assertEqual(error is None, free.way <= plot.most)
            self.assertEqual(error, None if free.way <= plot.most else ("TooLong", free.way))
        else:
            self.assertEqual(error, told)
        self.assertLessEqual(plot.way, plot.most)


class EditsWithABound(BoundedCase):
    def test_edits_of_all_kinds(self):
        dice = Dice(1)
        for many in range(MAX_BEDS + 1):
            for small in (True, False):
                garden = some_garden(dice, many, small=small)
                way = plain.least_way(garden)
                for most in (way, way + 1, way + 50, way * 2, LIMIT):
                    plot = BoundedPlot(garden, most)
                    for _ in range(14):
                        edit = some_wrong_edit(dice) if dice.throw(5) == 0 else some_edit(dice, plot.garden)
                        self.check_edit(plot, edit)

    def test_bounds_just_kept_and_one_less(self):
        dice = Dice(2)
        checked = 0
        for many in range(MAX_BEDS + 1):
            garden = some_garden(dice, many, small=True)
            for _ in range(12):
                edit = some_edit(dice, garden)
                free = Plot(garden)
                if error_of(do_edit, free, edit) is None and free.way > plain.least_way(garden):
                    checked += 1
                    self.assertEqual(do_edit(BoundedPlot(garden, free.way), edit), 1)
                    tight = BoundedPlot(garden, free.way - 1)
                    self.assertEqual(error_of(do_edit, tight, edit), ("TooLong", free.way))
                    self.assertEqual(shown(tight), shown(Plot(garden)))
        self.assertGreater(checked, 50)

    def test_too_long_after_all_other_errors(self):
        plot = BoundedPlot((0, 1, tuple((place, 1) for place in range(MAX_BEDS))), 132)
        self.assertEqual(error_of(plot.want, 10 ** 6, 10 ** 9 + 1), ("BadLitres", 10 ** 9 + 1))
        self.assertEqual(error_of(plot.want, 10 ** 6, 1), ("TooManyBeds",))
        self.assertEqual(error_of(plot.want, 11, 2), ("TooLong", 154))
        self.assertEqual(error_of(plot.move, None), ("BadPlace", None))
        self.assertEqual(error_of(plot.fill, 0), ("BadCan", 0))
        self.assertEqual((plot.edits(), plot.most), ((), 132))

    def test_room_follows_the_way(self):
        plot = BoundedPlot(S, 10)
        self.assertEqual([plot.room(plot.way), plot.fill(3), plot.room(plot.way), plot.undo(), plot.room(plot.way)],
                         [2, 1, 4, 0, 2])
        self.assertEqual(error_of(plot.room, 11), ("TooLong", 11))

    def test_undo_never_raises_it(self):
        dice = Dice(3)
        for many in range(0, MAX_BEDS + 1, 2):
            garden = some_garden(dice, many, small=True)
            plot = BoundedPlot(garden, plain.least_way(garden))
            told = [shown(plot)]
            # Litres are taken off, so the way is less than before the edits that are undone.
            for place, _ in garden[2]:
                if error_of(plot.want, place, 0) is None:
                    told.append(shown(plot))
            for version in range(len(plot) - 1, -1, -1):
                self.assertEqual(plot.undo(), version)
                self.assertEqual(shown(plot), told[version])
            self.assertEqual(error_of(plot.undo), ("NothingToUndo",))


class AttemptsWithABound(BoundedCase):
    def test_an_edit_that_breaks_the_bound(self):
        plot = BoundedPlot(S, 10)
        plot.fill(3)
        before = shown(plot)
        for edits, index in (([("want", 9, 1)], 0), ([("move", -1), ("want", 9, 1)], 1),
                             ([("fill", 1), ("fill", 3)], 0),
                             ([("move", 1), ("fill", 2), ("move", -9), ("fill", 0)], 2)):
            self.assertEqual(error_of(plot.attempt, edits), ("Rejected", index))
            self.assertEqual(shown(plot), before)
        self.assertEqual([plot.attempt([("move", -1), ("fill", 9)]), plot.way, plot.move(0), len(plot)], [2, 8, 4, 4])

    def test_each_edit_is_bounded_not_only_the_last_one(self):
        # After both edits the way would be right again, but not after the first one.
        plot = BoundedPlot(S, 8)
        self.assertEqual(error_of(plot.attempt, [("move", -50), ("move", 1)]), ("Rejected", 0))
        self.assertEqual(plot.attempt([("move", 1), ("want", 3, 4), ("move", 3), ("want", 1, 3)]), 4)

    def test_batches_of_all_kinds(self):
        dice = Dice(4)
        for many in range(MAX_BEDS + 1):
            garden = some_garden(dice, many, small=True)
            for most in (plain.least_way(garden), plain.least_way(garden) * 2 + 9):
                for _ in range(6):
                    plot = BoundedPlot(garden, most)
                    edits = [some_edit(dice, garden) for _ in range(dice.throw(7))]
                    expected, now = None, garden
                    for index, edit in enumerate(edits):
                        if plain.edit_error(now, index, edit, most=most) is not None:
                            expected = ("Rejected", index)
                            break
                        now = plain.after(now, edit)
                    self.assertEqual(error_of(plot.attempt, edits), expected)
                    self.assertEqual(plot.garden, garden if expected else now)
                    self.assertEqual(len(plot), 0 if expected else len(edits))

    def test_room_while_watch_runs(self):
        plot = BoundedPlot(S, 20)
        told = []

        def watch(one):
            told.append((one.most, one.room(one.way), error_of(one.room, 21), error_of(one.room, None)))

        self.assertEqual(plot.attempt([("fill", 3), ("move", -2)], watch=watch), 2)
        self.assertEqual(told, [(20, 14, ("TooLong", 21), ("BadNumber", None)),
                                (20, 10, ("TooLong", 21), ("BadNumber", None))])

    def test_too_long_raised_by_watch(self):
        plot = BoundedPlot(S, 10)
        before = shown(plot)
        self.assertRaises(TooLong, plot.attempt, [("fill", 3)], watch=lambda one: one.room(11))
        self.assertEqual(shown(plot), before)
        self.assertEqual(plot.fill(3), 1)


if __name__ == "__main__":
    unittest.main()
