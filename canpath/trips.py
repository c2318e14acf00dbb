"""Trips with one can, and plans that are made of them."""

from canpath.checks import ascends, is_number, is_number_from, is_tuple_of


def is_trip(garden, value):
    """Tell whether any value is a trip in the garden."""
    tap, can, beds = garden
    if not isinstance(value, tuple) or len(value) == 0:
        return False
    bed_places = [place for place, litres in beds]
    if not all([is_row(bed_places, row) for row in value]):
        return False
    # Ascending places also tell that no place occurs twice.
    if not ascends([place for place, litres in value]):
        return False
    return sum([litres for place, litres in value]) <= can


def is_row(bed_places, value):
    """Tell whether any value is the place of a bed with litres to bring there."""
    if not is_tuple_of(value, 2):
        return False
    place, litres = value
    # The list would also find True at place 1, so the kind is asked first.
    return is_number(place) and place in bed_places and is_number_from(litres, 1)


def way_of_trip(garden, trip):
    """Return the way of a trip."""
    tap = garden[0]
    # The places ascend, so the first and the last row are the farthest ones.
    left = max(0, tap - trip[0][0])
    right = max(0, trip[-1][0] - tap)
    return 2 * (left + right)


def is_plan(garden, value):
    """Tell whether any value is a plan of the garden."""
    if not isinstance(value, tuple):
        return False
    if not all([is_repeated_trip(garden, item) for item in value]):
        return False
    # The trips alone must ascend: a trip in two items with different times is wrong too.
    if not ascends([trip for trip, times in value]):
        return False
    return all([litres_brought(value, place) == litres for place, litres in garden[2]])


def is_repeated_trip(garden, value):
    """Tell whether any value is a trip with the number of times that it is made."""
    return is_tuple_of(value, 2) and is_trip(garden, value[0]) and is_number_from(value[1], 1)


def litres_brought(plan, place):
    """Return the litres that all trips together bring to the place."""
    return sum([times * litres for trip, times in plan for goal, litres in trip if goal == place])


def way_of(garden, plan):
    """Return the way of all trips of a plan together."""
    return sum([times * way_of_trip(garden, trip) for trip, times in plan])


def trips_of(garden, plan):
    """Return the number of trips of a plan, each as often as it is made."""
    return sum([times for trip, times in plan])
