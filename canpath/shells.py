"""A shell: commands as lines of text for a plot."""

from canpath.checks import is_place
from canpath.errors import BadCan, BadLitres, BadPlace, Busy, NothingToUndo, TooLong, TooManyBeds, TooManyEdits
from canpath.more import free_litres
from canpath.taps import best_taps
from canpath.texts import garden_text, number_in

# How many numbers each command takes.
EDITS = {"want": 2, "move": 1, "fill": 1, "undo": 0}
QUERIES = {"garden": 0, "way": 0, "trips": 0, "taps": 0, "free": 1}

UNKNOWN = "unknown command"


class Shell:
    """Somebody who carries out commands on a plot."""

    def __init__(self, plot):
        self.plot = plot

    def execute(self, line):
        """Carry out the command that any value may be, and return the answer."""
        if not isinstance(line, str):
            return UNKNOWN
        name, *words = line.split(" ")
        numbers = [number_in(word) for word in words]
        if None in numbers:
            return UNKNOWN
        if EDITS.get(name) == len(numbers):
            return self.answer_edit(name, numbers)
        if QUERIES.get(name) == len(numbers):
            return self.answer_query(name, numbers)
        return UNKNOWN

    def answer_edit(self, name, numbers):
        """Return the answer to a command that changes the plot."""
        # Each error is named on its own, since a class is not asked for its name.
        try:
            return f"ok {self.edit_plot(name, numbers)}"
        except Busy:
            return "error Busy"
        except TooManyEdits:
            return "error TooManyEdits"
        except BadPlace:
            return "error BadPlace"
        except BadLitres:
            return "error BadLitres"
        except TooManyBeds:
            return "error TooManyBeds"
        except BadCan:
            return "error BadCan"
        except NothingToUndo:
            return "error NothingToUndo"
        except TooLong:
            return "error TooLong"

    def edit_plot(self, name, numbers):
        """Call the method of this name and return the new version."""
        if name == "want":
            return self.plot.want(numbers[0], numbers[1])
        if name == "move":
            return self.plot.move(numbers[0])
        if name == "fill":
            return self.plot.fill(numbers[0])
        return self.plot.undo()

    def answer_query(self, name, numbers):
        """Return the answer to a command that leaves the plot as it is."""
        if name == "garden":
            return garden_text(self.plot.garden)
        if name == "way":
            return str(self.plot.way)
        if name == "trips":
            return str(self.plot.trips)
        if name == "taps":
            return taps_text(self.plot.garden)
        return free_text(self.plot.garden, numbers[0])


def taps_text(garden):
    """Return the two places of the best taps as a text."""
    best = best_taps(garden)
    if best is None:
        return "none"
    return f"{best[0]} {best[1]}"


def free_text(garden, place):
    """Return how many litres cost nothing more at the place as a text."""
    if not is_place(place):
        return "error BadPlace"
    free = free_litres(garden, place)
    if free is None:
        return "any"
    return str(free)
