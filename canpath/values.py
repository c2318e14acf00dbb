"""Loads, which are litres at places, and walkers who bring what a garden wants."""

from canpath.bounds import LIMIT, MAX_ROWS
from canpath.checks import ascends, is_number_within, is_place, is_tuple_of
from canpath.errors import BadGarden, BadLoad, BadTrip, Missing, NoPlace, TooMuch, TooWet
from canpath.gardens import garden_error
from canpath.trips import is_trip, way_of_trip


class Load:
    """Litres at places; a load never changes."""

    def __init__(self, rows):
        if not are_rows(rows):
            raise BadLoad(rows)
        self.rows = rows
        self.total = sum([litres for place, litres in rows])

    def __getitem__(self, at):
        if not is_place(at):
            raise NoPlace(at)
        return sum([litres for place, litres in self.rows if place == at])

    def __iter__(self):
        # Without this, Python would go through the places 0, 1, 2 and so on.
        raise TypeError("a load is not iterated over")

    def __add__(self, other):
        if not isinstance(other, Load):
            return NotImplemented
        places = sorted(set([place for place, litres in self.rows + other.rows]))
        rows = [(place, self[place] + other[place]) for place in places]
        if len(rows) > MAX_ROWS or any([litres > LIMIT for place, litres in rows]):
            raise TooMuch()
        return Load(tuple(rows))

    def __sub__(self, other):
        if not isinstance(other, Load):
            return NotImplemented
        for place, litres in other.rows:
            if litres > self[place]:
                raise Missing(place)
        rows = [(place, litres - other[place]) for place, litres in self.rows]
        return Load(tuple([(place, litres) for place, litres in rows if litres > 0]))

    def __contains__(self, x):
        return isinstance(x, Load) and all([litres <= self[place] for place, litres in x.rows])

    def __len__(self):
        return len(self.rows)

    def __str__(self):
        return "\n".join([f"{place:>10,}:{litres:>10,}" for place, litres in self.rows])

    def __eq__(self, other):
        return isinstance(other, Load) and self.rows == other.rows


def are_rows(value):
    """Tell whether any value is the rows of a load."""
    if not isinstance(value, tuple) or len(value) > MAX_ROWS:
        return False
    if not all([is_load_row(row) for row in value]):
        return False
    # Ascending places also tell that no place occurs twice.
    return ascends([place for place, litres in value])


def is_load_row(value):
    """Tell whether any value is a place with the litres that a load can have there."""
    return is_tuple_of(value, 2) and is_place(value[0]) and is_number_within(value[1], 1, LIMIT)


class Walker:
    """Somebody who is told trips, one after another, and brings what the beds of a garden want."""

    def __init__(self, garden):
        error = garden_error(garden)
        if error is not None:
            raise BadGarden(error)
        self.garden = garden
        self.left = Load(garden[2])
        self.way = 0
        self.trips = 0

    def __call__(self, value):
        if not is_trip(self.garden, value):
            raise BadTrip(value)
        for place, litres in value:
            if litres > self.left[place]:
                raise TooWet(place)
        way = way_of_trip(self.garden, value)
        self.left = self.left - Load(value)
        self.way += way
        self.trips += 1
        return way
