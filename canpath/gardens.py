"""Gardens: the tap, the can and the beds, and the stretches between them."""

from canpath.bounds import MAX_BEDS, MAX_CAN, MAX_LITRES
from canpath.checks import is_number_within, is_place, is_tuple_of


def is_garden(value):
    """Tell whether any value is a garden."""
    return garden_error(value) is None


def garden_error(value):
    """Return None for a garden, otherwise where its first error is and what it is."""
    if not is_tuple_of(value, 3):
        return (None, "garden")
    tap, can, beds = value
    if not is_place(tap):
        return (None, "tap")
    if not is_number_within(can, 1, MAX_CAN):
        return (None, "can")
    if not isinstance(beds, tuple) or len(beds) > MAX_BEDS:
        return (None, "beds")
    return bed_error(beds)


def bed_error(beds):
    """Return the error of the first wrong bed in a tuple, or None."""
    for index, bed in enumerate(beds):
        if not is_bed(bed):
            return (index, "bed")
        # All beds before this one were right, so the one before it has a place.
        if index > 0 and bed[0] <= beds[index - 1][0]:
            return (index, "bed")
    return None


def is_bed(value):
    """Tell whether any value is a bed."""
    return is_tuple_of(value, 2) and is_place(value[0]) and is_number_within(value[1], 1, MAX_LITRES)


def litres_wanted(garden):
    """Return the litres that all beds want together."""
    return sum([litres for place, litres in garden[2]])


def litres_at(garden, place):
    """Return the litres that are wanted at the place, 0 if there is no bed."""
    return sum([litres for spot, litres in garden[2] if spot == place])


def wanting(garden, place, litres):
    """Return the garden in which so many litres are wanted at the place; for 0 there is no bed."""
    tap, can, beds = garden
    others = [bed for bed in beds if bed[0] != place]
    bed_there = [] if litres == 0 else [(place, litres)]
    return (tap, can, tuple(sorted(others + bed_there)))


def stretches_of(garden):
    """Return (low, high, litres beyond) for each stretch, from left to right."""
    marks = marks_of(garden)
    return tuple([(low, high, litres_beyond(garden, low, high)) for low, high in zip(marks, marks[1:])])


def marks_of(garden):
    """Return the list of the places of the tap and of the beds, each once, ascending."""
    tap, can, beds = garden
    # A bed may be at the place of the tap, and both are then one mark.
    return sorted(set([tap] + [place for place, litres in beds]))


def litres_beyond(garden, low, high):
    """Return the litres that are carried over the stretch from low to high."""
    tap, can, beds = garden
    # The tap is a mark itself, so it is never inside a stretch.
    if tap <= low:
        return sum([litres for place, litres in beds if place >= high])
    return sum([litres for place, litres in beds if place <= low])
