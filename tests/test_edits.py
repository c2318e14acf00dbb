"""Promises 14, 15 and 16: edits, their errors, undo, and the versions of a plot."""

import unittest

from canpath.bounds import LIMIT, MAX_BEDS, MAX_CAN, MAX_EDITS, MAX_LITRES, MAX_PLACE
from canpath.errors import NoVersion
from canpath.plots import BoundedPlot, Plot
from canpath.ways import certificate, certificate_holds
from tests import plain
from tests.makers import (
    G, LONG, NUMBERS, S, STRANGE, Dice, asked_at, do_edit, error_of, shown, some_edit, some_garden, some_wrong_edit,
)

TWELVE = (0, 2, tuple((place, place + 1) for place in range(MAX_BEDS)))


def full_plot(garden=S):
    """A plot with as many edits as it can have."""
    plot = Plot(garden)
    for index in range(MAX_EDITS):
        plot.move(index)
    return plot


class EditCase(unittest.TestCase):
    def check_plot(self, plot, gardens, edits):
        """The plot has the last garden, and these edits stand."""
        garden = gardens[-1]
        self.assertEqual((plot.garden, plot.way, plot.trips),
                         (garden, plain.least_way(garden), plain.fewest_trips(garden)))
        self.assertEqual((len(plot), str(plot)), (len(edits), plain.plot_text(garden, len(edits))))
        self.assertEqual((plot.edits(), plot.state()), (tuple(edits), garden))
        self.assertIs(type(plot.edits()), tuple)
        self.assertEqual([plot.state(version=version) for version in range(len(gardens))], gardens)

    def check_edit(self, plot, edit):
        """The edit is done, or raises its first error and changes nothing."""
        garden, edits, before = plot.garden, plot.edits(), repr(edit)
        gardens = [plot.state(version=version) for version in range(len(plot) + 1)]
        error = plain.edit_error(garden, len(edits), edit)
        with self.subTest(garden=garden, edit=before[:200]):
            if error is None:
                self.assertEqual(do_edit(plot, edit), len(edits) + 1)
                self.check_plot(plot, gardens + [plain.after(garden, edit)], edits + (edit,))
            else:
                told = error_of(do_edit, plot, edit)
                self.assertEqual(told, error)
                self.assertEqual(list(map(type, told)), list(map(type, error)))
                self.check_plot(plot, gardens, edits)
            self.assertEqual(repr(edit), before)
        return error is None


class Edits(EditCase):
    def test_up_to_eighteen_edits(self):
        dice = Dice(1)
        for many in range(MAX_BEDS + 1):
            for small in (True, False):
                plot = Plot(some_garden(dice, many, small=small))
                for _ in range(18):
                    self.check_edit(plot, some_edit(dice, plot.garden))

    def test_right_and_wrong_edits_mixed(self):
        dice = Dice(2)
        done = refused = 0
        for many in range(MAX_BEDS + 1):
            plot = Plot(some_garden(dice, many, small=True))
            for _ in range(40):
                edit = some_wrong_edit(dice) if dice.throw(3) else some_edit(dice, plot.garden)
                if self.check_edit(plot, edit):
                    done += 1
                else:
                    refused += 1
        self.assertGreater(min(done, refused), 100)

    def test_litres_of_0(self):
        plot = Plot(S)
        # Without a bed there, the edit stands and the garden stays.
        self.assertEqual([plot.want(2, 0), plot.garden, plot.edits()], [1, S, (("want", 2, 0),)])
        self.assertEqual([plot.want(1, 0), plot.garden], [2, (0, 2, ((3, 2),))])
        self.assertEqual([plot.want(1, 0), plot.want(3, 0), plot.garden, plot.way], [3, 4, (0, 2, ()), 0])
        self.assertEqual([plot.undo(), plot.undo(), plot.garden], [3, 2, (0, 2, ((3, 2),))])

    def test_a_bed_at_the_tap_and_at_the_ends(self):
        plot = Plot((4, 3, ()))
        for edit in (("want", 4, 10), ("want", -MAX_PLACE, MAX_LITRES), ("want", MAX_PLACE, 1), ("move", MAX_PLACE),
                     ("fill", 1), ("fill", MAX_CAN), ("move", -MAX_PLACE), ("want", 4, MAX_LITRES), ("want", 4, 0)):
            self.assertTrue(self.check_edit(plot, edit))

    def test_an_edit_that_changes_nothing_stands_too(self):
        plot = Plot(S)
        self.assertEqual([plot.want(3, 2), plot.move(0), plot.fill(2), plot.garden, len(plot)], [1, 2, 3, S, 3])


class ErrorsOfEdits(EditCase):
    def test_values_of_all_kinds(self):
        for garden in (S, TWELVE, (0, 1, ())):
            for value in STRANGE + NUMBERS + (S, 1.0):
                for edit in (("move", value), ("fill", value), ("want", value, 1), ("want", 1, value),
                             ("want", value, value), ("want", value, -1), ("want", 77, value)):
                    self.check_edit(Plot(garden), edit)

    def test_fields_are_the_values_that_were_passed(self):
        plot = Plot(S)
        value = [1, {"a": (True,)}]
        for call, field in ((lambda: plot.move(value), "BadPlace"), (lambda: plot.fill(value), "BadCan"),
                            (lambda: plot.want(value, 1), "BadPlace"), (lambda: plot.want(1, value), "BadLitres")):
            told = error_of(call)
            self.assertEqual(told[0], field)
            self.assertIs(told[1], value)

    def test_true_behind_one(self):
        plot = Plot(S)
        for value in (1, True, 1, 0, False, 0):
            for edit in (("move", value), ("fill", value), ("want", value, 3), ("want", 5, value)):
                self.check_edit(plot, edit)

    def test_too_many_beds(self):
        plot = Plot(TWELVE)
        for place in (-1, MAX_BEDS, -MAX_PLACE, MAX_PLACE):
            self.assertEqual(error_of(plot.want, place, 1), ("TooManyBeds",))
            self.assertEqual(error_of(plot.want, place, -1), ("BadLitres", -1))
        self.assertEqual(error_of(plot.want, MAX_PLACE + 1, 1), ("BadPlace", MAX_PLACE + 1))
        # A bed that is there can change, and no bed is added for 0 litres.
        self.assertEqual([plot.want(3, 9), plot.want(99, 0), plot.want(0, 0), plot.want(99, 1)], [1, 2, 3, 4])
        self.assertEqual(error_of(plot.want, 0, 1), ("TooManyBeds",))

    def test_too_many_edits(self):
        plot = full_plot()
        before = shown(plot)
        self.assertEqual(len(plot), MAX_EDITS)
        for edit in (("want", 1, 1), ("move", 1), ("fill", 1), ("want", None, None), ("move", "a"), ("fill", 0),
                     ("want", 1, -1), ("want", 2, 0), ("fill", True)):
            self.assertEqual(error_of(do_edit, plot, edit), ("TooManyEdits",))
        self.assertEqual(shown(plot), before)
        for edit in (("want", 1, 7), ("move", 8), ("fill", 9)):
            self.assertEqual([plot.undo(), do_edit(plot, edit)], [MAX_EDITS - 1, MAX_EDITS])
            self.assertEqual(error_of(do_edit, plot, edit), ("TooManyEdits",))
        full = full_plot(TWELVE)
        self.assertEqual(error_of(full.want, 99, 1), ("TooManyEdits",))

    def test_too_many_edits_with_a_bound(self):
        plot = BoundedPlot((0, 1, ()), 0)
        for _ in range(MAX_EDITS):
            plot.fill(3)
        self.assertEqual(error_of(plot.want, 1, 1), ("TooManyEdits",))
        self.assertEqual([plot.undo(), error_of(plot.want, 1, 1)], [MAX_EDITS - 1, ("TooLong", 2)])


class Undo(EditCase):
    def test_down_to_the_beginning(self):
        dice = Dice(3)
        for many in range(0, MAX_BEDS + 1, 2):
            plot = Plot(some_garden(dice, many, small=many % 4 == 0))
            told = [shown(plot)]
            while len(plot) < 9:
                if error_of(do_edit, plot, some_edit(dice, plot.garden)) is None:
                    told.append(shown(plot))
            for version in range(8, -1, -1):
                self.assertEqual(plot.undo(), version)
                self.assertEqual(shown(plot), told[version])
            self.assertEqual(error_of(plot.undo), ("NothingToUndo",))
            self.assertEqual(shown(plot), told[0])

    def test_nothing_to_undo(self):
        for plot in (Plot(S), BoundedPlot(S, 8), Plot((0, 1, ()))):
            self.assertEqual(error_of(plot.undo), ("NothingToUndo",))
            self.assertEqual([plot.move(plot.garden[0]), plot.undo(), error_of(plot.undo)], [1, 0, ("NothingToUndo",)])

    def test_undone_and_done_again(self):
        dice = Dice(4)
        plot = Plot(some_garden(dice, 5, small=True))
        gardens, edits = [plot.garden], []
        for _ in range(200):
            edit = some_edit(dice, plot.garden)
            if dice.throw(5) < 2 and edits:
                plot.undo()
                gardens.pop()
                edits.pop()
            elif plain.edit_error(plot.garden, len(edits), edit) is None:
                gardens.append(plain.after(plot.garden, edit))
                edits.append(edit)
                do_edit(plot, edit)
            self.check_plot(plot, gardens, edits)

    def test_promise_2_f_a_plot_with_the_same_garden_tells_the_same(self):
        dice = Dice(5)
        for many in range(0, MAX_BEDS + 1, 3):
            plot = Plot(some_garden(dice, many))
            for _ in range(25):
                if dice.throw(3) == 0 and len(plot) > 0:
                    plot.undo()
                else:
                    error_of(do_edit, plot, some_edit(dice, plot.garden))
                other = Plot(plot.garden)
                self.assertEqual((plot.garden, plot.way, plot.trips), (other.garden, other.way, other.trips))
                self.assertEqual(asked_at(plot, None), asked_at(other, None))
                self.assertEqual(plot, other)


class Versions(EditCase):
    def edited(self, seed, many):
        """A plot with some edits, and what it told at each version."""
        dice = Dice(seed)
        plot = Plot(some_garden(dice, many, small=True))
        told = [asked_at(plot, 0)]
        while len(plot) < 8:
            if error_of(do_edit, plot, some_edit(dice, plot.garden)) is None:
                told.append(asked_at(plot, len(plot)))
        return plot, told

    def test_each_version_is_what_it_was(self):
        for many in range(0, MAX_BEDS, 2):
            plot, told = self.edited(6, many)
            before = shown(plot)
            self.assertEqual([asked_at(plot, version) for version in range(len(plot) + 1)], told)
            self.assertEqual(shown(plot), before)

    def test_answers_at_each_version(self):
        plot, _ = self.edited(7, 4)
        for version in (None, *range(len(plot) + 1)):
            garden = plot.state(version=version)
            self.assertEqual(list(plot.walk(version=version)), plain.walked(garden))
            way = plain.least_way(garden)
            for number in (0, max(0, way - 1), way, way + 1, LIMIT):
                told = plot.certificate(number, version=version)
                self.assertEqual(told, certificate(garden, number))
                self.assertIs(certificate_holds(garden, number, told), True)
                self.assertEqual(told[0], "plan" if way <= number else "counts")

    def test_no_version(self):
        edited, _ = self.edited(8, 3)
        before = shown(edited)
        for plot, most in ((edited, 8), (Plot(S), 0)):
            wrong = [value for value in STRANGE + (-1, most + 1, 61, LONG, -LONG, "0", (0,), 0.0) if value is not None]
            for value in wrong:
                with self.subTest(value=repr(value)[:80]):
                    for call in (lambda: plot.state(version=value), lambda: list(plot.walk(version=value)),
                                 lambda: plot.certificate(5, version=value),
                                 # The version is looked at before the number.
                                 lambda: plot.certificate(None, version=value)):
                        with self.assertRaises(NoVersion) as caught:
                            call()
                        self.assertIs(caught.exception.value, value)
        self.assertEqual(shown(edited), before)

    def test_the_version_above_after_undo(self):
        plot = Plot(S)
        plot.move(4)
        self.assertEqual(plot.state(version=1), (4, 2, S[2]))
        plot.undo()
        self.assertEqual(error_of(plot.state, version=1), ("NoVersion", 1))
        plot.fill(5)
        self.assertEqual(plot.state(version=1), (0, 5, S[2]))

    def test_true_is_not_version_1(self):
        plot = Plot(S)
        plot.move(4)
        for version in (1, True, 1, 0, False, 0):
            if type(version) is bool:
                self.assertRaises(NoVersion, lambda: plot.state(version=version))
            else:
                self.assertEqual(plot.state(version=version)[0], 4 * version)

    def test_bad_numbers(self):
        plot = Plot(S)
        plot.move(2)
        for value in STRANGE + (-1, LIMIT + 1, LONG, -LONG):
            for version in (None, 0, 1):
                with self.subTest(value=repr(value)[:80]):
                    told = error_of(plot.certificate, value, version=version)
                    self.assertEqual(told[0], "BadNumber")
                    self.assertIs(told[1], value)
        self.assertEqual(plot.certificate(LIMIT)[0], "plan")

    def test_version_is_passed_by_keyword(self):
        plot = Plot(S)
        for call in (lambda: plot.state(0), lambda: plot.walk(0), lambda: plot.certificate(7, 0)):
            self.assertRaises(TypeError, call)


class Walks(EditCase):
    def test_two_at_once(self):
        plot = Plot(G)
        plot.want(-3, 4)
        plot.move(1)
        expected = [plain.walked(plot.state(version=version)) for version in (2, 0)]
        one, other = iter(plot.walk()), iter(plot.walk(version=0))
        told = ([], [])
        for _ in range(3):
            told[0].append(next(one))
            told[1].append(next(other))
        told[0].extend(one)
        told[1].extend(other)
        self.assertEqual(list(told), expected)

    def test_left_early(self):
        plot = Plot(G)
        for many in range(4):
            steps = plot.walk()
            self.assertEqual([next(steps) for _ in range(many)], plain.walked(G)[:many])
            steps.close()
            before = shown(plot)
            self.assertEqual([plot.move(3), plot.undo()], [1, 0])
            self.assertEqual(shown(plot), before)

    def test_walks_of_all_gardens(self):
        dice = Dice(9)
        for many in range(MAX_BEDS + 1):
            garden = some_garden(dice, many)
            rows = list(Plot(garden).walk())
            self.assertEqual(rows, plain.walked(garden))
            self.assertEqual(sum(2 * (high - low) * times for low, high, _, times in rows), plain.least_way(garden))


if __name__ == "__main__":
    unittest.main()
