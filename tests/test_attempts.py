"""Promise 16: attempts, which do all of their edits or none, and may be watched."""

import unittest

from canpath import errors
from canpath.bounds import BATCH, LIMIT, MAX_BEDS, MAX_EDITS
from canpath.errors import BadEdits, Busy, PathError, Rejected
from canpath.plots import BoundedPlot, Plot
from canpath.values import Load
from tests import plain
from tests.makers import (
    G, NUMBERS, S, STRANGE, Dice, changed, do_edit, error_of, shown, some_edit, some_garden, some_wrong_edit,
)

BATCH_OF_ALL = (("want", 2, 5), ("move", 4), ("fill", 7), ("want", 1, 0), ("want", 9, 0))
NO_EDITS = STRANGE + NUMBERS + (
    ("want",), ("want", 1), ("want", 1, 2, 3), ("move",), ("move", 1, 2), ("fill",), ("fill", 1, 2), ("undo",),
    ("Want", 1, 2), ("want ", 1, 2), ("state",), ("attempt", ()), ("read", "0 2 none"), ["move", 1], (None, 1),
    (("move",), 1), (["move"], 1), ({}, 1), (True, 1), (b"move", 1), (1, "move"), ("", 1), (Load(()), 1),
)


class WatchError(Exception):
    """An error that the package does not know."""


class AttemptCase(unittest.TestCase):
    def check_ready(self, plot):
        """The plot is not busy: an edit and an undo are done."""
        if len(plot) < MAX_EDITS:
            before, version = shown(plot), len(plot)
            self.assertEqual([plot.want(77, 0), plot.undo()], [version + 1, version])
            self.assertEqual(shown(plot), before)
        self.assertEqual(plot.attempt([]), 0)

    def check_refused(self, plot, edits, error, watch=None):
        before, edits_before = shown(plot), repr(edits)
        self.assertEqual(error_of(plot.attempt, edits, watch=watch), error)
        self.assertEqual(shown(plot), before)
        self.assertEqual(repr(edits), edits_before)
        self.check_ready(plot)

    def check_done(self, plot, edits, many):
        """The first edits are done, each standing by itself, as if they had been done one by one."""
        other = Plot(plot.state(version=0))
        for edit in plot.edits() + tuple(edits[:many]):
            do_edit(other, edit)
        self.assertEqual(plot.attempt(edits), many)
        self.assertEqual(shown(plot), shown(other))
        self.check_ready(plot)


class Batches(AttemptCase):
    def test_all_edits_are_done(self):
        for edits in (BATCH_OF_ALL, list(BATCH_OF_ALL), (), [], BATCH_OF_ALL[:1]):
            plot = Plot(S)
            plot.move(1)
            self.check_done(plot, edits, len(edits))

    def test_each_edit_is_undone_by_itself(self):
        plot = Plot(S)
        plot.attempt(BATCH_OF_ALL)
        self.assertEqual(plot.edits(), BATCH_OF_ALL)
        gardens = [plot.state(version=version) for version in range(6)]
        for version in range(4, -1, -1):
            self.assertEqual([plot.undo(), plot.garden], [version, gardens[version]])

    def test_none_to_twenty_edits_and_twenty_one(self):
        for many in range(BATCH + 1):
            for kind in (list, tuple):
                self.check_done(Plot(S), kind([("move", index) for index in range(many)]), many)
        for many in (BATCH + 1, BATCH + 2, 1000):
            for kind in (list, tuple):
                self.check_refused(Plot(S), kind([("move", 1)] * many), ("BadEdits",))
                # The length is looked at before the items.
                self.check_refused(Plot(S), kind([None] * many), ("BadEdits",))

    def test_values_that_are_no_lists_or_tuples(self):
        for value in STRANGE + NUMBERS + ({"move": 1}, "move", Load(()), Plot(S), b"", range(0)):
            if not isinstance(value, (list, tuple)):
                self.assertRaises(BadEdits, Plot(S).attempt, value)

    def test_items_that_are_no_edits(self):
        for value in NO_EDITS:
            for index in (0, 1, 4):
                edits = list(BATCH_OF_ALL)
                edits.insert(index, value)
                self.check_refused(Plot(S), edits, ("BadEdit", index))
                self.check_refused(Plot(S), tuple(edits), ("BadEdit", index))
                self.check_refused(Plot(S), edits + [value, None], ("BadEdit", index))

    def test_no_edit_before_a_rejected_one(self):
        seen = []
        for edits, index in (([("move", None), None], 1), ([None, ("move", None)], 0),
                             ([("move", 1), ("fill", 0), ("want", 1)], 2)):
            self.check_refused(Plot(S), edits, ("BadEdit", index), watch=seen.append)
        self.assertEqual(seen, [])

    def test_changed_edits(self):
        others = (None, True, "", "want", "move", "fill", [], (), 0, 1, -1, ("move", 1))
        for edits in ((("want", 2, 5), ("move", 4)), (("fill", 1),)):
            for value in changed(edits, others):
                self.check_any(value)

    def check_any(self, value):
        """The attempt does what a slow reading of the batch says."""
        plot = Plot(S)
        if not isinstance(value, (list, tuple)) or len(value) > BATCH:
            return self.check_refused(plot, value, ("BadEdits",))
        wrong = [index for index, item in enumerate(value) if not plain.is_edit(item)]
        if wrong:
            return self.check_refused(plot, value, ("BadEdit", wrong[0]))
        garden = S
        for index, edit in enumerate(value):
            if plain.edit_error(garden, index, edit) is not None:
                return self.check_refused(plot, value, ("Rejected", index))
            garden = plain.after(garden, edit)
        return self.check_done(plot, value, len(value))

    def test_batches_of_all_kinds(self):
        dice = Dice(1)
        for _ in range(400):
            edits = [some_edit(dice, S) for _ in range(dice.throw(9))]
            if dice.throw(2):
                edits.insert(dice.throw(len(edits) + 1), some_wrong_edit(dice))
            if dice.throw(4) == 0:
                edits.insert(dice.throw(len(edits) + 1), dice.pick(NO_EDITS))
            self.check_any(dice.pick((list, tuple))(edits))


class RejectedEdits(AttemptCase):
    def test_each_error(self):
        beds = tuple((place, 1) for place in range(MAX_BEDS))
        wrong = (("want", None, 1), ("want", 1, -1), ("want", True, 1), ("want", 1, [1]), ("move", "a"), ("fill", 0),
                 ("want", 99, 1), ("fill", {}), ("move", (1,)))
        for edit in wrong:
            for index in range(4):
                edits = [("move", 5), ("fill", 3), ("want", 2, 8)]
                edits.insert(index, edit)
                plot = Plot((0, 2, beds))
                plot.want(1, 5)
                self.check_refused(plot, edits, ("Rejected", index))

    def test_a_bed_that_an_edit_before_it_made_room_for(self):
        plot = Plot((0, 2, tuple((place, 1) for place in range(MAX_BEDS))))
        self.check_refused(plot, [("want", 99, 1), ("want", 0, 0)], ("Rejected", 0))
        self.check_done(plot, [("want", 0, 0), ("want", 99, 1)], 2)

    def test_too_many_edits(self):
        for standing in (MAX_EDITS - 3, MAX_EDITS - 1, MAX_EDITS):
            plot = Plot(S)
            for index in range(standing):
                plot.move(index)
            room = MAX_EDITS - standing
            self.check_refused(plot, [("fill", 3)] * (room + 1), ("Rejected", room))
            self.assertEqual(plot.attempt([("fill", 3)] * room), room)
            self.assertEqual(len(plot), MAX_EDITS)

    def test_not_the_error_of_the_edit_itself(self):
        with self.assertRaises(Rejected) as caught:
            Plot(S).attempt([("move", 9), ("want", 1, -1)])
        self.assertIs(type(caught.exception), Rejected)
        self.assertEqual(caught.exception.index, 1)


class Watches(AttemptCase):
    def test_called_after_each_edit_with_this_plot(self):
        plot = Plot(S)
        seen = []
        self.assertEqual(plot.attempt(BATCH_OF_ALL, watch=lambda one: seen.append((one, shown(one)))), 5)
        other = Plot(S)
        for (one, told), edit in zip(seen, BATCH_OF_ALL):
            do_edit(other, edit)
            self.assertIs(one, plot)
            self.assertEqual(told, shown(other))
        self.assertEqual(len(seen), 5)

    def test_never_called_for_an_empty_batch(self):
        for edits in ((), []):
            self.assertEqual(Plot(S).attempt(edits, watch=lambda one: 1 // 0), 0)

    def test_values_that_count_as_true_or_false(self):
        for value in STRANGE + NUMBERS + (Load(()), Load(((1, 1),)), Plot(S), object(), 0.0):
            plot = Plot(S)
            many = 1 if value else 5
            self.assertEqual(plot.attempt(BATCH_OF_ALL, watch=lambda one: value), many)
            self.assertEqual(plot.edits(), BATCH_OF_ALL[:many])
            self.check_ready(plot)

    def test_ended_after_each_edit(self):
        for many in range(1, 6):
            plot, other = Plot(S), Plot(S)
            self.assertEqual(plot.attempt(list(BATCH_OF_ALL), watch=lambda one: len(one) == many), many)
            other.attempt(BATCH_OF_ALL[:many])
            self.assertEqual(shown(plot), shown(other))
            self.check_ready(plot)

    def test_an_edit_behind_the_end_is_never_done(self):
        plot = Plot(S)
        self.assertEqual(plot.attempt([("move", 4), ("move", None)], watch=lambda one: True), 1)
        self.assertEqual(plot.edits(), (("move", 4),))

    def test_not_called_for_a_rejected_edit(self):
        seen = []
        edits = [("move", 4), ("fill", 3), ("fill", 0)]
        self.check_refused(Plot(S), edits, ("Rejected", 2), watch=lambda one: seen.append(1))
        self.assertEqual(seen, [1, 1])

    def test_exceptions_of_all_kinds(self):
        made = [WatchError("x"), ValueError("x"), KeyError(1), LookupError(), TypeError("x"), StopIteration(),
                KeyboardInterrupt(), SystemExit(2), GeneratorExit(), Busy(), Rejected(0), errors.NoVersion(1),
                errors.BadPlace(5), errors.TooManyEdits(), PathError("x"), BadEdits()]
        for error in made:
            for when in (1, 3, 5):
                plot = Plot(S)
                plot.want(3, 4)
                before = shown(plot)

                def watch(one):
                    if len(one) == 1 + when:
                        raise error

                with self.subTest(error=repr(error), when=when):
                    with self.assertRaises(type(error)) as caught:
                        plot.attempt(BATCH_OF_ALL, watch=watch)
                    self.assertIs(caught.exception, error)
                    self.assertEqual(shown(plot), before)
                    self.check_ready(plot)

    def test_busy(self):
        told = []

        def watch(one):
            before = shown(one)
            calls = ((one.want, 1, 1), (one.want, None, None), (one.move, 1), (one.move, "a"), (one.fill, 1),
                     (one.fill, 0), (one.undo,), (one.attempt, ()), (one.attempt, None), (one.attempt, [("move", 1)]),
                     (one.attempt, [None]))
            told.append([error_of(call, *values) for call, *values in calls])
            self.assertEqual(shown(one), before)

        for plot in (Plot(S), BoundedPlot(S, LIMIT)):
            plot.attempt(BATCH_OF_ALL, watch=watch)
            self.check_ready(plot)
        self.assertEqual(told, [[("Busy",)] * 11] * 10)

    def test_busy_before_too_many_edits_and_too_long(self):
        told = []
        plot = Plot(S)
        for index in range(MAX_EDITS - 1):
            plot.move(index)
        plot.attempt([("fill", 3)], watch=lambda one: told.append(error_of(one.move, 1)))
        self.assertEqual((told, len(plot)), ([("Busy",)], MAX_EDITS))
        bounded = BoundedPlot(S, 8)
        bounded.attempt([("fill", 3)], watch=lambda one: told.append(error_of(one.want, 1000, 9)))
        self.assertEqual(told, [("Busy",)] * 2)

    def test_busy_that_is_not_caught(self):
        for call in (lambda one: one.undo(), lambda one: one.move(1), lambda one: one.attempt([])):
            plot = Plot(S)
            plot.fill(5)
            before = shown(plot)
            self.assertRaises(Busy, plot.attempt, BATCH_OF_ALL, watch=call)
            self.assertEqual(shown(plot), before)
            self.check_ready(plot)

    def test_another_plot_is_not_busy(self):
        one, other = Plot(S), Plot(S)

        def watch(plot):
            other.attempt([("move", len(plot)), ("fill", 3)], watch=lambda second: error_of(one.undo) != ("Busy",))

        self.assertEqual(one.attempt(BATCH_OF_ALL[:3], watch=watch), 3)
        self.assertEqual((len(one), len(other)), (3, 6))
        self.check_ready(one)
        self.check_ready(other)

    def test_queries_see_the_edits_so_far(self):
        told = []

        def watch(one):
            told.append((one.garden, one.way, one.trips, len(one), one.edits(), list(one.walk()), one.state(version=1),
                         error_of(one.state, version=len(one) + 1), one == Plot(one.garden), Plot.read("0 1 none").way))

        plot = Plot(G)
        plot.attempt([("move", 3), ("fill", 1)], watch=watch)
        for index, garden in enumerate(((3, 3, G[2]), (3, 1, G[2]))):
            edits = (("move", 3), ("fill", 1))[:index + 1]
            self.assertEqual(told[index], (
                garden, plain.least_way(garden), plain.fewest_trips(garden), index + 1, edits, plain.walked(garden),
                (3, 3, G[2]), ("NoVersion", index + 2), True, 0))

    def test_watch_is_passed_by_keyword(self):
        self.assertRaises(TypeError, Plot(S).attempt, [], None)


class CopiedEdits(AttemptCase):
    def test_the_list_is_changed_by_watch(self):
        for change in (lambda edits: edits.clear(), lambda edits: edits.append(("move", 50)),
                       lambda edits: edits.append(None), lambda edits: edits.reverse(),
                       lambda edits: edits.__setitem__(slice(None), [("fill", 0)] * 5)):
            edits = list(BATCH_OF_ALL)
            plot = Plot(S)
            self.assertEqual(plot.attempt(edits, watch=lambda one: change(edits)), 5)
            self.assertEqual(plot.edits(), BATCH_OF_ALL)

    def test_the_list_is_changed_afterwards(self):
        edits = list(BATCH_OF_ALL)
        plot = Plot(S)
        plot.attempt(edits)
        before = shown(plot)
        edits[0] = ("move", 99)
        edits.clear()
        self.assertEqual(shown(plot), before)
        self.assertEqual([plot.undo(), plot.edits()], [4, BATCH_OF_ALL[:4]])


class AttemptsInALine(AttemptCase):
    def test_done_and_refused_ones(self):
        dice = Dice(2)
        for many in range(0, MAX_BEDS + 1, 3):
            plot = Plot(some_garden(dice, many, small=True))
            for _ in range(12):
                before = shown(plot)
                edits = [some_edit(dice, plot.garden) for _ in range(dice.throw(6))]
                if dice.throw(3) == 0:
                    edits.append(("fill", 0))
                try:
                    done = plot.attempt(edits)
                except Rejected:
                    self.assertEqual(shown(plot), before)
                else:
                    self.assertEqual(plot.edits(), before[5] + tuple(edits))
                    for _ in range(done):
                        plot.undo()
                    self.assertEqual(shown(plot), before)
                    plot.attempt(edits[:3])


if __name__ == "__main__":
    unittest.main()
