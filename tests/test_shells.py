"""Promise 19: the shell."""

import unittest

from canpath.bounds import LIMIT, MAX_BEDS, MAX_CAN, MAX_EDITS, MAX_LITRES, MAX_PLACE
from canpath.more import free_litres
from canpath.plots import BoundedPlot, Plot
from canpath.shells import Shell
from canpath.taps import best_taps
from canpath.texts import garden_text
from canpath.values import Load
from tests import plain
from tests.makers import (
    G, NUMBERS, S, STRANGE, Dice, do_edit, places_near, shown, sided_gardens, some_edit, some_garden,
)

UNKNOWN = "unknown command"
QUERIES = ("garden", "way", "trips", "taps")


class ShellCase(unittest.TestCase):
    def check_unknown(self, plot, line):
        before = shown(plot)
        with self.subTest(line=repr(line)[:100]):
            self.assertEqual(Shell(plot).execute(line), UNKNOWN)
            self.assertEqual(shown(plot), before)

    def check_edit(self, plot, edit):
        """The command does what the edit does; its answer is that of the edit."""
        line = " ".join(map(str, edit))
        other = type(plot)(plot.state(version=0), *([plot.most] if isinstance(plot, BoundedPlot) else []))
        for done in plot.edits():
            do_edit(other, done)
        error = plain.edit_error(plot.garden, len(plot), edit, most=getattr(plot, "most", None))
        if error is None:
            do_edit(other, edit)
        answer = Shell(plot).execute(line)
        with self.subTest(line=line, garden=other.garden):
            self.assertEqual(answer, f"ok {len(other)}" if error is None else f"error {error[0]}")
            self.assertEqual(shown(plot), shown(other))


class Queries(ShellCase):
    def test_answers(self):
        for garden in sided_gardens(1, each=1) + [S, G, (-7, 1, ())]:
            plot = Plot(garden)
            before = shown(plot)
            best = best_taps(garden)
            taps = "none" if best is None else f"{best[0]} {best[1]}"
            told = [Shell(plot).execute(line) for line in QUERIES]
            expected = [garden_text(garden), str(plain.least_way(garden)), str(plain.fewest_trips(garden)), taps]
            self.assertEqual(told, expected)
            self.assertEqual(shown(plot), before)

    def test_free(self):
        for garden in sided_gardens(2, each=1)[::3] + [S, G, (-7, 1, ())]:
            shell = Shell(Plot(garden))
            for place in places_near(garden):
                free = free_litres(garden, place)
                self.assertEqual(shell.execute(f"free {place}"), "any" if free is None else str(free))

    def test_free_at_what_is_no_place(self):
        shell = Shell(Plot(S))
        for number in (MAX_PLACE + 1, -MAX_PLACE - 1, 9999999999, -9999999999):
            self.assertEqual(shell.execute(f"free {number}"), "error BadPlace")
        self.assertNotIn("error", shell.execute(f"free {MAX_PLACE}") + shell.execute(f"free {-MAX_PLACE}"))


class Edits(ShellCase):
    def test_edits_of_all_kinds(self):
        dice = Dice(3)
        numbers = (0, 1, -1, MAX_PLACE, MAX_PLACE + 1, -MAX_PLACE - 1, MAX_CAN, MAX_CAN + 1, MAX_LITRES,
                   MAX_LITRES + 1, 9999999999, -9999999999)
        for many in range(MAX_BEDS + 1):
            garden = some_garden(dice, many, small=True)
            for plot in (Plot(garden), BoundedPlot(garden, plain.least_way(garden) + 20)):
                for _ in range(10):
                    self.check_edit(plot, some_edit(dice, plot.garden))
                    self.check_edit(plot, ("want", dice.pick(numbers), dice.pick(numbers)))
                    self.check_edit(plot, (dice.pick(("move", "fill")), dice.pick(numbers)))

    def test_undo(self):
        shell = Shell(Plot(S))
        lines = ("undo", "move 5", "fill 7", "undo", "garden", "undo", "undo", "garden")
        told = [shell.execute(line) for line in lines]
        self.assertEqual(told, ["error NothingToUndo", "ok 1", "ok 2", "ok 1", "5 2 1:1,3:2", "ok 0",
                                "error NothingToUndo", "0 2 1:1,3:2"])

    def test_each_error(self):
        beds = tuple((place, 1) for place in range(MAX_BEDS))
        shell = Shell(BoundedPlot((0, 1, beds), 132))
        told = [shell.execute(line) for line in ("want 1000001 1", "want 1 -1", "want 99 1", "move -1000001", "fill 0",
                                                 "want 11 2", "undo", "fill 1000001", "want 1 1000000001")]
        self.assertEqual(told, ["error BadPlace", "error BadLitres", "error TooManyBeds", "error BadPlace",
                                "error BadCan", "error TooLong", "error NothingToUndo", "error BadCan",
                                "error BadLitres"])

    def test_too_many_edits(self):
        plot = Plot(S)
        shell = Shell(plot)
        for version in range(1, MAX_EDITS + 1):
            self.assertEqual(shell.execute("move 3"), f"ok {version}")
        for line in ("move 3", "fill 0", "want 1 1", "want 9999999999 -1"):
            self.assertEqual(shell.execute(line), "error TooManyEdits")
        self.assertEqual([shell.execute("undo"), shell.execute("fill 4")], ["ok 59", "ok 60"])


class Lines(ShellCase):
    def test_too_few_and_too_many_words(self):
        for line in ("want", "want 1", "want 1 2 3", "move", "move 1 2", "fill", "fill 1 2", "undo 1", "undo undo",
                     "garden 1", "garden garden", "way 1", "trips 1", "taps 1", "free", "free 1 2", "", " ", "1",
                     "1 2"):
            plot = Plot(S)
            plot.move(1)
            self.check_unknown(plot, line)

    def test_extra_spaces(self):
        for line in ("way", "undo", "garden", "move 1", "want 1 2", "free 1"):
            plot = Plot(S)
            plot.move(1)
            for at in range(len(line) + 1):
                for space in " \n\t\r\x0b\xa0":
                    self.check_unknown(plot, line[:at] + space + line[at:])
            if " " in line:
                self.check_unknown(plot, line.replace(" ", "\t"))

    def test_other_letters_and_names(self):
        for line in ("Way", "WAY", "ways", "wa", "Undo", "MOVE 1", "Want 1 2", "edits", "state", "walk", "len", "str",
                     "attempt", "room 1", "certificate 7", "most", "read", "help", "error", "ok", "none", "any",
                     "better", "execute", "__init__", "way;", "limit", "busy"):
            self.check_unknown(Plot(S), line)

    def test_numbers_as_they_are_not_written(self):
        for word in ("01", "-0", "-01", "00", "+1", "1_0", "--1", "-", "1-", "1.0", "1e3", "0x1", "a", "None", "True",
                     "\u0661", "\u00b2", "\uff11", "1\n", "\n1", "", "12345678901", "-12345678901", "0" * 11, "1" * 50,
                     "1" * 2000, "1" * 5000, "one", "1:1", "1,2"):
            for line in (f"move {word}", f"fill {word}", f"free {word}", f"want {word} 1", f"want 1 {word}"):
                self.check_unknown(Plot(S), line)

    def test_ten_and_eleven_digits(self):
        shell = Shell(Plot(S))
        told = [shell.execute(line) for line in ("move 1234567890", "move -1234567890", "fill 9999999999",
                                                 "want 1 1234567890", "want -1234567890 1", "free 1000000000")]
        self.assertEqual(told, ["error BadPlace", "error BadPlace", "error BadCan", "error BadLitres",
                                "error BadPlace", "error BadPlace"])
        self.assertEqual(shell.execute("want 1 1000000000"), "ok 1")
        for line in ("move 10000000000", "move -10000000000", "free 10000000000", "want 1 10000000000"):
            self.assertEqual(shell.execute(line), UNKNOWN)

    def test_values_that_are_not_texts(self):
        for value in STRANGE + NUMBERS + (S, ("way",), ["way"], b"way", Load(()), Plot(S), {"way": 1}):
            self.check_unknown(Plot(S), value)

    def test_words_mixed(self):
        dice = Dice(4)
        takes = {"want": 2, "move": 1, "fill": 1, "undo": 0, "garden": 0, "way": 0, "trips": 0, "taps": 0, "free": 1}
        words = (*takes, "1", "-2", "3", "03", "", "x", "9999999999", "99999999999")
        unknown = 0
        for _ in range(2000):
            line = " ".join(dice.pick(words) for _ in range(1 + dice.throw(4)))
            name, *rest = line.split(" ")
            right = takes.get(name) == len(rest) and all(
                plain.written(word) is not None and len(word.lstrip("-")) <= 10 for word in rest)
            self.assertEqual(Shell(Plot(S)).execute(line) != UNKNOWN, right, line)
            unknown += not right
        self.assertGreater(2000 - unknown, 100)


class SeveralShells(ShellCase):
    def test_two_shells_on_one_plot(self):
        plot = Plot(S)
        one, other = Shell(plot), Shell(plot)
        told = [one.execute("move 5"), other.execute("garden"), other.execute("fill 9"), one.execute("way"),
                one.execute("undo"), other.execute("undo"), other.execute("undo"), one.execute("garden")]
        self.assertEqual(told, ["ok 1", "5 2 1:1,3:2", "ok 2", "8", "ok 1", "ok 0", "error NothingToUndo",
                                "0 2 1:1,3:2"])

    def test_the_very_plot(self):
        plot = Plot(S)
        shell = Shell(plot)
        plot.want(2, 5)
        self.assertEqual(shell.execute("garden"), "0 2 1:1,2:5,3:2")
        shell.execute("fill 9")
        self.assertEqual((plot.garden[1], len(plot)), (9, 2))

    def test_commands_while_a_watch_runs(self):
        plot = Plot(S)
        shell, told = Shell(plot), []
        lines = ("move 1", "move 9999999999", "fill 3", "want 1 1", "undo", "way", "garden", "trips", "taps", "free 1",
                 "free 3", "move", "x", "free 1000001")

        def watch(one):
            told.append([shell.execute(line) for line in lines])

        self.assertEqual(plot.attempt([("fill", 3), ("move", 3)], watch=watch), 2)
        busy, end = ["error Busy"] * 5, [UNKNOWN, UNKNOWN, "error BadPlace"]
        self.assertEqual(told, [busy + ["6", "0 3 1:1,3:2", "1", "1 3", "0", "0"] + end,
                                busy + ["4", "3 3 1:1,3:2", "1", "1 3", "2", "any"] + end])
        self.assertEqual(shell.execute("undo"), "ok 1")

    def test_a_plot_with_a_bound(self):
        shell = Shell(BoundedPlot(S, 8))
        told = [shell.execute(line) for line in ("move -1", "fill 1", "move 1", "want 9 1", "way", "undo", "way")]
        self.assertEqual(told, ["error TooLong", "error TooLong", "ok 1", "error TooLong", "4", "ok 0", "8"])
        self.assertEqual(Shell(BoundedPlot(S, LIMIT)).execute("move -1"), "ok 1")


if __name__ == "__main__":
    unittest.main()
