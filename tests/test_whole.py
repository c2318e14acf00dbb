"""Promises 2 and 3 over all parts together."""

import unittest

from canpath.bounds import LIMIT, MAX_BEDS, MAX_PLACE
from canpath.counting import count_best, each_plan
from canpath.errors import PathError
from canpath.gardens import litres_wanted, stretches_of
from canpath.more import extra_way, free_litres, least_can
from canpath.plots import BoundedPlot, Plot
from canpath.shells import Shell
from canpath.taps import best_taps, better_tap, way_at
from canpath.texts import garden_text, parse_garden
from canpath.trips import is_plan, trips_of, way_of
from canpath.values import Load, Walker
from canpath.ways import best_plan, certificate, certificate_holds, fewest_trips, least_way
from tests import plain
from tests.makers import (
    G, S, Dice, changed, do_edit, each_made, error_of, gardens_at_the_bounds, places_near, shown, sided_gardens,
    some_edit, some_garden, some_plan,
)


def walked_by_a_walker(garden):
    """What is left, the way and the trips of a walker who makes the best plan."""
    walker = Walker(garden)
    for trip in each_made(best_plan(garden)):
        walker(trip)
    return walker.left.rows, walker.way, walker.trips


def brought_by(plan):
    """The load that all trips of a plan bring."""
    load = Load(())
    for trip, times in plan:
        load = load + Load(tuple((place, litres * times) for place, litres in trip))
    return load


class OneWay(unittest.TestCase):
    def check(self, garden):
        way, trips = plain.least_way(garden), plain.fewest_trips(garden)
        plan = best_plan(garden)
        plot, bounded = Plot(garden), BoundedPlot(garden, way)
        ways = [least_way(garden), way_of(garden, plan), plot.way, bounded.way, bounded.most, way_at(garden, garden[0]),
                int(Shell(plot).execute("way")), Plot.read(garden_text(garden)).way,
                sum(2 * (high - low) * times for low, high, _, times in plot.walk())]
        self.assertEqual(ways, [way] * len(ways))
        many = [fewest_trips(garden), trips_of(garden, plan), plot.trips, int(Shell(plot).execute("trips"))]
        self.assertEqual(many, [trips] * 4)
        self.assertEqual(brought_by(plan), Load(garden[2]))
        self.assertEqual(plot.certificate(way), ("plan", plan))
        if way > 0:
            self.assertEqual(plot.certificate(way - 1)[0], "counts")
            self.assertEqual(error_of(BoundedPlot, garden, way - 1), ("TooLong", way))
        if trips <= 200:
            self.assertEqual(walked_by_a_walker(garden), ((), way, trips))

    def test_gardens(self):
        for garden in sided_gardens(1, each=2) + gardens_at_the_bounds() + [S, G, (-7, 1, ())]:
            with self.subTest(garden=garden):
                self.check(garden)

    def test_gardens_of_edited_plots(self):
        dice = Dice(2)
        for many in range(MAX_BEDS + 1):
            plot = Plot(some_garden(dice, many, small=True))
            for _ in range(8):
                error_of(do_edit, plot, some_edit(dice, plot.garden))
                self.check(plot.garden)

    def test_small_gardens_and_all_their_plans(self):
        dice = Dice(3)
        for _ in range(40):
            tap, can, beds = some_garden(dice, dice.throw(4), small=True)
            garden = (tap, can, tuple((place, 1 + litres % 2) for place, litres in beds))
            ways = [way_of(garden, plan) for plan in each_plan(garden)]
            self.assertEqual((min(ways), ways.count(min(ways))), (Plot(garden).way, count_best(garden)))


class Guarantees(unittest.TestCase):
    gardens = sided_gardens(4, each=1) + gardens_at_the_bounds()[::4]

    def test_a_a_plan_or_counts_never_both(self):
        for garden in self.gardens:
            plot, way = Plot(garden), plain.least_way(garden)
            plan, counts = best_plan(garden), certificate(garden, 0)
            for number in sorted({0, max(0, way - 1), way, way + 1, LIMIT}):
                told = plot.certificate(number)
                self.assertIs(certificate_holds(garden, number, told), True)
                self.assertIs(certificate_holds(garden, number, ("plan", plan)), way <= number)
                if counts[0] == "counts":
                    self.assertIs(certificate_holds(garden, number, counts), way > number)

    def test_b_the_least_way_and_the_fewest_trips_at_once(self):
        for garden in self.gardens:
            plan = best_plan(garden)
            self.assertIs(is_plan(garden, plan), True)
            self.assertEqual((way_of(garden, plan), trips_of(garden, plan)), (Plot(garden).way, Plot(garden).trips))

    def test_c_the_way_falls_stays_and_rises(self):
        for garden in self.gardens:
            best = best_taps(garden)
            plot = Plot(garden)
            for place in places_near(garden):
                plot.move(place)
                self.assertEqual(plot.way, way_at(garden, place))
                better = better_tap(plot.garden)
                self.assertEqual(better is None, best is None or best[0] <= place <= best[1])
                if better is not None:
                    # The way never rises towards a better place.
                    middle = (place + better) // 2
                    self.assertLessEqual(way_at(garden, middle), plot.way)
                plot.undo()

    def test_d_more_litres_further_beds_and_smaller_cans(self):
        for garden in self.gardens:
            plot = Plot(garden)
            way, trips = plot.way, plot.trips
            for place in places_near(garden):
                litres = dict(garden[2]).get(place, 0) + 1
                if error_of(plot.want, place, litres) is None:
                    self.assertEqual(plot.way, way + extra_way(garden, place))
                    self.assertIn(plot.trips, (trips, trips + 1))
                    plot.undo()
            if garden[1] > 1:
                plot.fill(garden[1] - 1)
                self.assertGreaterEqual(plot.way, way)
                self.assertGreaterEqual(plot.trips, trips)

    def test_e_what_holds_is_right_whoever_made_it(self):
        dice = Dice(5)
        for many in range(6):
            garden = some_garden(dice, many, small=True)
            way = plain.least_way(garden)
            values = [certificate(garden, 0), certificate(garden, way), ("plan", some_plan(dice, garden))]
            for value in values:
                for other in changed(value, (0, 1, True, None, (), "plan")):
                    for number in (0, way):
                        holds = certificate_holds(garden, number, other)
                        self.assertIs(holds, plain.certificate_holds(garden, number, other))

    def test_free_litres_are_free_on_a_plot(self):
        for garden in sided_gardens(6, each=1, litres=("few", "around the can")):
            plot, wanted = Plot(garden), dict(garden[2])
            for place in places_near(garden):
                free = free_litres(garden, place)
                if free and (place in wanted or len(wanted) < MAX_BEDS):
                    # A bound at the way itself leaves room for just these litres.
                    tight = BoundedPlot(garden, plot.way)
                    self.assertEqual(tight.want(place, wanted.get(place, 0) + free), 1)
                    grown = plot.way + extra_way(tight.garden, place)
                    self.assertEqual(error_of(tight.want, place, wanted.get(place, 0) + free + 1), ("TooLong", grown))
                    self.assertGreater(grown, plot.way)

    def test_least_cans_keep_a_bound(self):
        for garden in sided_gardens(7, each=1, litres=("few",)):
            plot = BoundedPlot(garden, plain.least_way(garden))
            can = least_can(garden, plot.most)
            self.assertLessEqual(can, garden[1])
            self.assertEqual(plot.fill(can), 1)
            if can > 1:
                self.assertEqual(error_of(plot.fill, can - 1)[0], "TooLong")


class AnswersAgain(unittest.TestCase):
    def asked(self, plot):
        """All that can be asked about a plot and its garden."""
        garden, shell = plot.garden, Shell(plot)
        places = (garden[0], garden[0] + 1, -MAX_PLACE, 3)
        lines = [shell.execute(line) for line in ("garden", "way", "trips", "taps", "free 3", "free 0")]
        return [shown(plot), lines, stretches_of(garden), litres_wanted(garden), best_taps(garden), better_tap(garden),
                [(extra_way(garden, place), free_litres(garden, place), way_at(garden, place)) for place in places],
                least_can(garden, plot.way), best_plan(garden), parse_garden(garden_text(garden))]

    def test_after_undos_every_answer_is_the_same_again(self):
        dice = Dice(8)
        for many in range(0, MAX_BEDS + 1, 3):
            garden = some_garden(dice, many, small=True)
            for plot in (Plot(garden), BoundedPlot(garden, plain.least_way(garden) + 500)):
                told = [self.asked(plot)]
                while len(plot) < 6:
                    if error_of(do_edit, plot, some_edit(dice, plot.garden)) is None:
                        told.append(self.asked(plot))
                while len(plot) > 0:
                    self.assertEqual(self.asked(plot), told[len(plot)])
                    plot.undo()
                self.assertEqual(self.asked(plot), told[0])

    def test_equal_calls_on_equal_objects(self):
        dice = Dice(9)
        for many in range(MAX_BEDS + 1):
            garden = some_garden(dice, many)
            copy = eval(repr(garden))
            self.assertEqual(repr(self.asked(Plot(garden))), repr(self.asked(Plot(copy))))
            self.assertEqual(garden, copy)

    def test_a_refused_call_leaves_the_answers(self):
        plot = BoundedPlot(G, 30)
        plot.attempt([("want", 2, 1), ("fill", 4), ("move", 1)])
        before = self.asked(plot)
        calls = (lambda: plot.want(None, 1), lambda: plot.want(1, None), lambda: plot.move(True), lambda: plot.fill(0),
                 lambda: plot.want(10 ** 6, 1), lambda: plot.attempt(None), lambda: plot.attempt([None]),
                 lambda: plot.attempt([("move", 0), ("fill", 0)]), lambda: plot.certificate(-1),
                 lambda: plot.state(version=4), lambda: list(plot.walk(version=True)), lambda: plot.room(31),
                 lambda: Plot.read("x"))
        for call in calls:
            self.assertRaises((PathError, LookupError), call)
            self.assertEqual(self.asked(plot), before)


if __name__ == "__main__":
    unittest.main()
