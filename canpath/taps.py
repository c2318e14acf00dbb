"""Where the tap should be."""

from canpath.ways import least_way


def way_at(garden, place):
    """Return the least way if the tap is at the place."""
    tap, can, beds = garden
    return least_way((place, can, beds))


def best_taps(garden):
    """Return the first and the last place of the tap with the least way of all, or None without beds."""
    # Between two beds the way changes by the same amount at each step, and it falls towards the beds from
    # outside: so the best places are some beds and all that lies between the first and the last of these.
    ways = [(way_at(garden, place), place) for place, litres in garden[2]]
    if len(ways) == 0:
        return None
    least = min([way for way, place in ways])
    best = [place for way, place in ways if way == least]
    return (best[0], best[-1])


def better_tap(garden):
    """Return a place of the tap with a way that is less than now, or None."""
    best = best_taps(garden)
    if best is None or way_at(garden, best[0]) == least_way(garden):
        return None
    return best[0]
