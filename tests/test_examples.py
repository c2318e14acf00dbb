"""The examples of the document, as they are printed there."""

import doctest
import unittest
from pathlib import Path

from canpath.errors import PathError

GARDENS = """
>>> from canpath.gardens import garden_error, is_garden
>>> S = (0, 2, ((1, 1), (3, 2)))
>>> [is_garden(S), garden_error((0, 0, ())), garden_error((0, 2, ((1, 1), (1, 2)))), garden_error((0, 2, None))]
[True, (None, 'can'), (1, 'bed'), (None, 'beds')]
"""

STRETCHES = """
>>> from canpath.gardens import stretches_of
>>> G = (0, 3, ((2, 4), (5, 1), (6, 3)))
>>> [stretches_of(G), stretches_of((4, 3, ((2, 4), (5, 1)))), stretches_of((4, 3, ((4, 9),)))]
[((0, 2, 8), (2, 5, 4), (5, 6, 3)), ((2, 4, 4), (4, 5, 1)), ()]
"""

TRIPS = """
>>> from canpath.trips import is_trip, way_of_trip
>>> S = (0, 2, ((1, 1), (3, 2)))
>>> [is_trip(S, ((1, 1), (3, 1))), is_trip(S, ((3, 3),)), is_trip(S, ((2, 1),)), way_of_trip(S, ((1, 1), (3, 1))), way_of_trip((2, 2, ((1, 1), (3, 2))), ((1, 1), (3, 1)))]
[True, False, False, 6, 4]
"""

PLANS = """
>>> from canpath.trips import is_plan, trips_of, way_of
>>> S = (0, 2, ((1, 1), (3, 2)))
>>> P = ((((1, 1),), 1), (((3, 2),), 1))
>>> [is_plan(S, P), is_plan(S, P[::-1]), is_plan(S, P[:1]), way_of(S, P), trips_of(S, P)]
[True, False, False, 8, 2]
"""

LEAST_WAYS = """
>>> from canpath.ways import best_plan, fewest_trips, least_way
>>> S = (0, 2, ((1, 1), (3, 2)))
>>> G = (0, 3, ((2, 4), (5, 1), (6, 3)))
>>> [least_way(S), least_way(G), fewest_trips(G), best_plan(S)]
[8, 26, 3, ((((1, 1),), 1), (((3, 2),), 1))]
"""

CERTIFICATES = """
>>> from canpath.ways import certificate
>>> S = (0, 2, ((1, 1), (3, 2)))
>>> [certificate(S, 8), certificate(S, 7)]
[('plan', ((((1, 1),), 1), (((3, 2),), 1))), ('counts', (2, 1))]
"""

CHECKED_CERTIFICATES = """
>>> from canpath.ways import certificate_holds
>>> S = (0, 2, ((1, 1), (3, 2)))
>>> P = ((((1, 1),), 1), (((3, 2),), 1))
>>> [certificate_holds(S, 7, ('counts', (2, 1))), certificate_holds(S, 8, ('counts', (2, 1))), certificate_holds(S, 3, ('counts', (2, 0))), certificate_holds(S, 9, ('plan', P))]
[True, False, True, True]
"""

COUNTS_OF_PLANS = """
>>> from canpath.counting import count_best, count_plans
>>> S = (0, 2, ((1, 1), (3, 2)))
>>> [count_plans(S), count_best(S)]
[3, 1]
"""

EACH_PLAN = """
>>> from canpath.counting import each_plan
>>> list(each_plan((0, 2, ((3, 2),))))
[((((3, 1),), 2),), ((((3, 2),), 1),)]
"""

LOADS = """
>>> from canpath.values import Load
>>> load = Load(((1, 1), (3, 2)))
>>> [load.rows, load.total, len(load)]
[((1, 1), (3, 2)), 3, 2]
"""

SUMS_OF_LOADS = """
>>> from canpath.values import Load
>>> one = Load(((1, 1), (3, 2)))
>>> other = Load(((3, 2),))
>>> [one[3], one[2], (one + other).rows, (one - other).rows, other in one, one in other]
[2, 0, ((1, 1), (3, 4)), ((1, 1),), True, False]
"""

TEXTS_OF_LOADS = """
>>> from canpath.values import Load
>>> load = Load(((-4, 9), (12000, 5)))
>>> [str(load), load == Load(((-4, 9), (12000, 5))), load == ((-4, 9), (12000, 5))]
['        -4:         9\\n    12,000:         5', True, False]
"""

WALKERS = """
>>> from canpath.values import Walker
>>> S = (0, 2, ((1, 1), (3, 2)))
>>> walker = Walker(S)
>>> [walker(((3, 2),)), walker.left.rows, walker.way, walker.trips, walker(((1, 1), (3, 1)))]
raises TooWet(3)
"""

BOUNDS = """
>>> from canpath.limits import Bound
>>> made = Bound(9)
>>> [made.most, made.room(8)]
[9, 1]
"""

TEXTS = """
>>> from canpath.texts import garden_text
>>> S = (0, 2, ((1, 1), (3, 2)))
>>> [garden_text(S), garden_text((-7, 1, ()))]
['0 2 1:1,3:2', '-7 1 none']
"""

READ_TEXTS = """
>>> from canpath.texts import parse_garden
>>> parse_garden('0 2 3:2,1:1')
raises BadText(2)
"""

EXTRA_WAYS = """
>>> from canpath.more import extra_way
>>> S = (0, 2, ((1, 1), (3, 2)))
>>> [extra_way(S, 1), extra_way(S, 2), extra_way(S, 3), extra_way(S, 5), extra_way(S, 0), extra_way(S, -1)]
[0, 2, 4, 8, 0, 2]
"""

FREE_LITRES = """
>>> from canpath.more import free_litres
>>> S = (0, 2, ((1, 1), (3, 2)))
>>> [free_litres(S, 1), free_litres(S, 3), free_litres(S, 5), free_litres(S, 0)]
[1, 0, 0, None]
"""

LEAST_CANS = """
>>> from canpath.more import least_can
>>> S = (0, 2, ((1, 1), (3, 2)))
>>> [least_can(S, 8), least_can(S, 7), least_can(S, 5)]
[2, 3, None]
"""

TAPS = """
>>> from canpath.taps import best_taps, better_tap, way_at
>>> S = (0, 2, ((1, 1), (3, 2)))
>>> [way_at(S, 1), way_at(S, 3), way_at(S, -1), best_taps(S), better_tap((2, 2, ((1, 1), (3, 2))))]
[4, 4, 12, (1, 3), None]
"""

PLOTS = """
>>> from canpath.plots import Plot
>>> S = (0, 2, ((1, 1), (3, 2)))
>>> plot = Plot(S)
>>> [plot.garden == S, plot.way, plot.trips, len(plot)]
[True, 8, 2, 0]
"""

ATTRIBUTES_OF_PLOTS = """
>>> from canpath.plots import Plot
>>> [Plot.MOST_EDITS, Plot((7, 1, ())).way]
[60, 0]
"""

EDITS = """
>>> from canpath.plots import Plot
>>> S = (0, 2, ((1, 1), (3, 2)))
>>> plot = Plot(S)
>>> [plot.want(2, 5), plot.garden, plot.want(1, 0), plot.move(3), plot.fill(9), plot.garden, plot.way]
[1, (0, 2, ((1, 1), (2, 5), (3, 2))), 2, 3, 4, (3, 9, ((2, 5), (3, 2))), 2]
"""

UNDO = """
>>> from canpath.plots import Plot
>>> S = (0, 2, ((1, 1), (3, 2)))
>>> plot = Plot(S)
>>> [plot.fill(3), plot.way, plot.undo(), plot.way]
[1, 6, 0, 8]
"""

ATTEMPTS = """
>>> from canpath.plots import Plot
>>> S = (0, 2, ((1, 1), (3, 2)))
>>> plot = Plot(S)
>>> plot.attempt([('move', 9), ('want', 1, -1)])
raises Rejected(1)
"""

STATES = """
>>> from canpath.plots import Plot
>>> plot = Plot((0, 1, ()))
>>> [plot.move(8), plot.state(), plot.state(version=0)]
[1, (8, 1, ()), (0, 1, ())]
"""

CERTIFICATES_OF_PLOTS = """
>>> from canpath.plots import Plot
>>> S = (0, 2, ((1, 1), (3, 2)))
>>> Plot(S).certificate(7)
('counts', (2, 1))
"""

WALKS = """
>>> from canpath.plots import Plot
>>> G = (0, 3, ((2, 4), (5, 1), (6, 3)))
>>> list(Plot(G).walk())
[(0, 2, 8, 3), (2, 5, 4, 2), (5, 6, 3, 1)]
"""

EDITS_THAT_STAND = """
>>> from canpath.plots import Plot
>>> plot = Plot((0, 1, ()))
>>> [plot.want(2, 8), plot.edits()]
[1, (('want', 2, 8),)]
"""

READ_PLOTS = """
>>> from canpath.plots import Plot
>>> Plot.read('0 2 1:1,3:2').garden
(0, 2, ((1, 1), (3, 2)))
"""

TEXTS_OF_PLOTS = """
>>> from canpath.plots import Plot
>>> S = (0, 2, ((1, 1), (3, 2)))
>>> [str(Plot(S)), Plot(S) == Plot((0, 3, S[2]))]
['2 beds, 3 litres, way 8, 2 trips, 0 edits', False]
"""

BOUNDED_PLOTS = """
>>> from canpath.plots import BoundedPlot
>>> S = (0, 2, ((1, 1), (3, 2)))
>>> plot = BoundedPlot(S, 10)
>>> [plot.room(plot.way), plot.fill(3), plot.way, plot.move(-1), plot.want(9, 1)]
raises TooLong(24)
"""

SHELLS = """
>>> from canpath.plots import Plot
>>> from canpath.shells import Shell
>>> Shell(Plot((-7, 1, ()))).execute('garden')
'-7 1 none'
"""

COMMANDS = """
>>> from canpath.plots import Plot
>>> from canpath.shells import Shell
>>> S = (0, 2, ((1, 1), (3, 2)))
>>> shell = Shell(Plot(S))
>>> [shell.execute('way'), shell.execute('taps'), shell.execute('free 1'), shell.execute('free 0'), shell.execute('move -1'), shell.execute('way'), shell.execute('move')]
['8', '1 3', '1', 'any', 'ok 1', '12', 'unknown command']
"""


def told_by(expression, names):
    """Return the repr of the expression, or the error that it raises."""
    try:
        return repr(eval(expression, names))
    except (PathError, LookupError) as error:
        fields = ", ".join(repr(value) for value in vars(error).values())
        return f"raises {type(error).__name__}({fields})"


def run_session(text):
    """Return what the last expression of a session tells, and what is printed for it."""
    *rows, printed = text.strip().split("\n")
    names = {}
    for row in rows[:-1]:
        exec(row.removeprefix(">>> "), names)
    return told_by(rows[-1].removeprefix(">>> "), names), printed


class Examples(unittest.TestCase):
    def check(self, text):
        told, printed = run_session(text)
        self.assertEqual(told, printed)

    def test_promise_4_gardens(self):
        self.check(GARDENS)

    def test_promise_5_stretches(self):
        self.check(STRETCHES)

    def test_promise_6_trips(self):
        self.check(TRIPS)

    def test_promise_7_plans(self):
        self.check(PLANS)

    def test_promise_8_least_ways(self):
        self.check(LEAST_WAYS)

    def test_promise_9_certificates(self):
        self.check(CERTIFICATES)

    def test_promise_9_checked_certificates(self):
        self.check(CHECKED_CERTIFICATES)

    def test_promise_12_counts_of_plans(self):
        self.check(COUNTS_OF_PLANS)

    def test_promise_12_each_plan(self):
        self.check(EACH_PLAN)

    def test_promise_13_loads(self):
        self.check(LOADS)

    def test_promise_13_sums_of_loads(self):
        self.check(SUMS_OF_LOADS)

    def test_promise_13_texts_of_loads(self):
        self.check(TEXTS_OF_LOADS)

    def test_promise_13_walkers(self):
        self.check(WALKERS)

    def test_promise_17_bounds(self):
        self.check(BOUNDS)

    def test_promise_18_texts(self):
        self.check(TEXTS)

    def test_promise_18_read_texts(self):
        self.check(READ_TEXTS)

    def test_promise_10_extra_ways(self):
        self.check(EXTRA_WAYS)

    def test_promise_10_free_litres(self):
        self.check(FREE_LITRES)

    def test_promise_10_least_cans(self):
        self.check(LEAST_CANS)

    def test_promise_11_taps(self):
        self.check(TAPS)

    def test_promise_14_plots(self):
        self.check(PLOTS)

    def test_promise_14_attributes_of_plots(self):
        self.check(ATTRIBUTES_OF_PLOTS)

    def test_promise_14_edits(self):
        self.check(EDITS)

    def test_promise_15_undo(self):
        self.check(UNDO)

    def test_promise_16_attempts(self):
        self.check(ATTEMPTS)

    def test_promise_16_states(self):
        self.check(STATES)

    def test_promise_16_certificates_of_plots(self):
        self.check(CERTIFICATES_OF_PLOTS)

    def test_promise_16_walks(self):
        self.check(WALKS)

    def test_promise_16_edits_that_stand(self):
        self.check(EDITS_THAT_STAND)

    def test_promise_16_read_plots(self):
        self.check(READ_PLOTS)

    def test_promise_16_texts_of_plots(self):
        self.check(TEXTS_OF_PLOTS)

    def test_promise_17_bounded_plots(self):
        self.check(BOUNDED_PLOTS)

    def test_promise_19_shells(self):
        self.check(SHELLS)

    def test_promise_19_commands(self):
        self.check(COMMANDS)

    def test_sessions_of_the_readme(self):
        readme = Path(__file__).resolve().parent.parent / "README.md"
        told = doctest.testfile(str(readme), module_relative=False)
        self.assertEqual(told.failed, 0)
        self.assertGreater(told.attempted, 0)


if __name__ == "__main__":
    unittest.main()
