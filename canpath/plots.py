"""Plots: gardens that are changed by edits, which can be undone."""

from canpath.bounds import BATCH, LIMIT, MAX_BEDS, MAX_CAN, MAX_EDITS, MAX_LITRES
from canpath.checks import is_number_within, is_place
from canpath.errors import (
    BadCan, BadEdit, BadEdits, BadGarden, BadLitres, BadNumber, BadPlace, Busy, NothingToUndo, NoVersion, PathError,
    Rejected, TooLong, TooManyBeds, TooManyEdits,
)
from canpath.gardens import garden_error, litres_wanted, stretches_of, wanting
from canpath.limits import Bound
from canpath.texts import parse_garden
from canpath.ways import certificate, fewest_trips, least_counts, least_way

# How many values each edit takes.
EDITS = {"want": 2, "move": 1, "fill": 1}


class Plot:
    """A garden with the edits that stand."""

    MOST_EDITS = 60

    def __init__(self, garden):
        error = garden_error(garden)
        if error is not None:
            raise BadGarden(error)
        self.busy = False
        self.limit = None
        self.turn_to((), (garden,))

    def turn_to(self, done, gardens):
        """Let these edits stand, with the gardens of all versions from 0 on."""
        # Both are tuples that are replaced, never changed: so attempt can put the former ones back.
        self.done = done
        self.gardens = gardens
        self.garden = gardens[-1]
        self.way = least_way(self.garden)
        self.trips = fewest_trips(self.garden)

    def want(self, place, litres):
        """Change the litres that are wanted at the place."""
        self.check_ready()
        if not is_place(place):
            raise BadPlace(place)
        if not is_number_within(litres, 0, MAX_LITRES):
            raise BadLitres(litres)
        garden = wanting(self.garden, place, litres)
        if len(garden[2]) > MAX_BEDS:
            raise TooManyBeds()
        return self.stand(("want", place, litres), garden)

    def move(self, place):
        """Move the tap to the place."""
        self.check_ready()
        if not is_place(place):
            raise BadPlace(place)
        tap, can, beds = self.garden
        return self.stand(("move", place), (place, can, beds))

    def fill(self, can):
        """Exchange the can."""
        self.check_ready()
        if not is_number_within(can, 1, MAX_CAN):
            raise BadCan(can)
        tap, former, beds = self.garden
        return self.stand(("fill", can), (tap, can, beds))

    def check_ready(self):
        """Raise an error if no edit can be done now."""
        if self.busy:
            raise Busy()
        if len(self.done) >= MAX_EDITS:
            raise TooManyEdits()

    def stand(self, edit, garden):
        """Let the edit stand after which the garden is this one, and return the new version."""
        way = least_way(garden)
        if self.limit is not None and way > self.limit:
            raise TooLong(way)
        self.turn_to(self.done + (edit,), self.gardens + (garden,))
        return len(self.done)

    def undo(self):
        """Remove the last edit that stands and return the new version."""
        if self.busy:
            raise Busy()
        if len(self.done) == 0:
            raise NothingToUndo()
        self.turn_to(self.done[:-1], self.gardens[:-1])
        return len(self.done)

    def attempt(self, edits, *, watch=None):
        """Do the edits, all of them or none, unless watch ends them early; return how many were done."""
        if self.busy:
            raise Busy()
        batch = batch_of(edits)
        done, gardens, garden, way, trips = self.done, self.gardens, self.garden, self.way, self.trips
        many = None
        try:
            many = self.do_all(batch, watch)
        finally:
            self.busy = False
            # Without a number an edit or watch has raised an error, which may be of any kind.
            if many is None:
                self.done, self.gardens, self.garden, self.way, self.trips = done, gardens, garden, way, trips
        return many

    def do_all(self, batch, watch):
        """Do the edits until watch ends them, and return how many were done."""
        for index, edit in enumerate(batch):
            self.do_edit(index, edit)
            if watch is not None and self.is_ended_by(watch):
                return index + 1
        return len(batch)

    def do_edit(self, index, edit):
        """Do the edit that has this index in its batch."""
        try:
            if edit[0] == "want":
                self.want(edit[1], edit[2])
            elif edit[0] == "move":
                self.move(edit[1])
            else:
                self.fill(edit[1])
        except PathError as e:
            raise Rejected(index) from e

    def is_ended_by(self, watch):
        """Show the plot to watch and tell whether the remaining edits are not to be done."""
        self.busy = True
        ended = bool(watch(self))
        self.busy = False
        return ended

    def state(self, *, version=None):
        """Return the garden, now or at a version."""
        if version is None:
            return self.garden
        if not is_number_within(version, 0, len(self.done)):
            raise NoVersion(version)
        return self.gardens[version]

    def certificate(self, number, *, version=None):
        """Return a certificate for the number, now or at a version."""
        garden = self.state(version=version)
        if not is_number_within(number, 0, LIMIT):
            raise BadNumber(number)
        return certificate(garden, number)

    def walk(self, *, version=None):
        """Yield each stretch with how often it is walked out and back at least."""
        garden = self.state(version=version)
        rows = list(zip(stretches_of(garden), least_counts(garden)))
        for (low, high, litres), times in rows:
            yield (low, high, litres, times)

    def edits(self):
        """Return the edits that stand."""
        return self.done

    @classmethod
    def read(cls, text):
        """Return a new plot with the garden of the text."""
        return cls(parse_garden(text))

    def __len__(self):
        return len(self.done)

    def __str__(self):
        return ", ".join([
            f"{len(self.garden[2])} beds",
            f"{litres_wanted(self.garden)} litres",
            f"way {self.way}",
            f"{self.trips} trips",
            f"{len(self.done)} edits",
        ])

    def __eq__(self, other):
        return isinstance(other, Plot) and self.garden == other.garden and self.limit == other.limit


class BoundedPlot(Plot, Bound):
    """A plot whose way never becomes greater than its bound."""

    def __init__(self, garden, most):
        Plot.__init__(self, garden)
        Bound.__init__(self, most)
        if self.way > most:
            raise TooLong(self.way)
        self.limit = most


def batch_of(edits):
    """Return a copy of the edits, if any value is a batch of edits."""
    if not isinstance(edits, (list, tuple)) or len(edits) > BATCH:
        raise BadEdits()
    for index, edit in enumerate(edits):
        if not is_edit(edit):
            raise BadEdit(index)
    return tuple(edits)


def is_edit(value):
    """Tell whether any value is a tuple of the name of an edit and as many values as it takes."""
    if not isinstance(value, tuple) or len(value) == 0 or not isinstance(value[0], str):
        return False
    return EDITS.get(value[0]) == len(value) - 1
