"""All plans of a small garden: how many there are, and one after another."""

from canpath.bounds import SMALL
from canpath.errors import TooLarge
from canpath.gardens import litres_wanted
from canpath.trips import is_trip, way_of
from canpath.ways import least_way


def count_plans(garden):
    """Return the number of plans."""
    return len(all_plans(garden))


def count_best(garden):
    """Return the number of plans that have the least way."""
    least = least_way(garden)
    return len([plan for plan in all_plans(garden) if way_of(garden, plan) == least])


def each_plan(garden):
    """Yield all plans in ascending order."""
    plans = all_plans(garden)
    yield from plans


def all_plans(garden):
    """Return the ascending list of all plans of a small garden."""
    if litres_wanted(garden) > SMALL:
        raise TooLarge(SMALL)
    wanted = {place: litres for place, litres in garden[2]}
    return plans_of(trips_within(garden), wanted)


def trips_within(garden):
    """Return the ascending list of the trips that bring no bed more than it wants."""
    choices = [()]
    for place, litres in garden[2]:
        further = [(*rows, (place, part)) for rows in choices for part in range(1, litres + 1)]
        choices = choices + further
    return sorted([rows for rows in choices if is_trip(garden, rows)])


def plans_of(trips, wanted):
    """Return the ascending list of the plans that bring what is wanted by some of the ascending trips."""
    if all([litres == 0 for litres in wanted.values()]):
        return [()]
    plans = []
    for index, trip in enumerate(trips):
        # Only later trips may follow, so each plan is found once and its trips ascend.
        later = trips[index + 1:]
        for times in range(1, most_times(trip, wanted) + 1):
            rests = plans_of(later, left_after(trip, times, wanted))
            plans = plans + [((trip, times), *rest) for rest in rests]
    return plans


def most_times(trip, wanted):
    """Return how often the trip can be made without bringing more than is wanted."""
    return min([wanted[place] // litres for place, litres in trip])


def left_after(trip, times, wanted):
    """Return what is still wanted when the trip has been made so many times."""
    left = dict(wanted)
    for place, litres in trip:
        left[place] -= times * litres
    return left
