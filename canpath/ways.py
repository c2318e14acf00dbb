"""The least way, a plan that has it, and certificates for what a way can be."""

from canpath.checks import is_number_from, is_tuple_of
from canpath.gardens import litres_wanted, stretches_of
from canpath.trips import is_plan, way_of


def least_way(garden):
    """Return the least way of a plan."""
    return way_of_counts(garden, least_counts(garden))


def fewest_trips(garden):
    """Return the least number of trips of a plan."""
    return cans_for(litres_wanted(garden), garden[1])


def least_counts(garden):
    """Return how often each stretch is walked out and back at least."""
    can = garden[1]
    return tuple([cans_for(litres, can) for low, high, litres in stretches_of(garden)])


def cans_for(litres, can):
    """Return how many cans the litres fill, the last one perhaps not full."""
    return (litres + can - 1) // can


def way_of_counts(garden, counts):
    """Return the way if each stretch is walked out and back as often as its count tells."""
    pairs = list(zip(stretches_of(garden), counts))
    return sum([2 * (high - low) * count for (low, high, litres), count in pairs])


def best_plan(garden):
    """Return a plan that has the least way and the fewest trips."""
    made = {}
    for rows, times in filled_cans(line_with_air(garden), garden[1]):
        if times > 0:
            trip = water_in(rows)
            # A bed may fill the first can alone and then further ones: these are the same trip.
            made[trip] = made.get(trip, 0) + times
    return tuple(sorted(made.items()))


def line_with_air(garden):
    """Return the rows of the beds from left to right, with a row of air (no place) at the tap."""
    tap, can, beds = garden
    # With the air, all cans are full. So they can be cut off the line one after another: seen from
    # either end, the litres beyond each stretch are in as few cans as can hold them.
    air = fewest_trips(garden) * can - litres_wanted(garden)
    left = [bed for bed in beds if bed[0] < tap]
    return left + [(None, air)] + list(beds[len(left):])


def filled_cans(line, can):
    """Return (rows, times) for the cans that are filled along the line, one after another."""
    cans = []
    rows = []
    room = can
    for place, litres in line:
        part = min(room, litres)
        rows.append((place, part))
        room -= part
        if room == 0:
            # A bed may want very many litres, so its own cans are counted, not filled one by one.
            times, rest = divmod(litres - part, can)
            cans = cans + [(rows, 1), ([(place, can)], times)]
            rows = [(place, rest)]
            room = can - rest
    return cans


def water_in(rows):
    """Return the trip with a can of these rows, some of which may be air or empty."""
    return tuple([(place, litres) for place, litres in rows if place is not None and litres > 0])


def certificate(garden, number):
    """Return a plan whose way is at most the number, or counts that exclude it."""
    if least_way(garden) <= number:
        return ("plan", best_plan(garden))
    return ("counts", least_counts(garden))


def certificate_holds(garden, number, value):
    """Tell whether any value is a certificate for the garden and the number."""
    if not is_tuple_of(value, 2):
        return False
    kind, content = value
    if kind == "plan":
        return is_plan(garden, content) and way_of(garden, content) <= number
    return kind == "counts" and are_counts(garden, number, content)


def are_counts(garden, number, value):
    """Tell whether any value is counts for the number."""
    stretches = stretches_of(garden)
    if not is_tuple_of(value, len(stretches)):
        return False
    if not all([is_number_from(count, 0) for count in value]):
        return False
    can = garden[1]
    pairs = list(zip(stretches, value))
    if not all([can * (count - 1) < litres for (low, high, litres), count in pairs]):
        return False
    return way_of_counts(garden, value) > number
