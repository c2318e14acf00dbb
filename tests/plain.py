"""The definitions of the document once more, written down slowly, to compare with."""

from canpath.bounds import MAX_BEDS, MAX_CAN, MAX_LITRES, MAX_PLACE


def numbers_only(values):
    return all(type(value) is int for value in values)


def is_pair(value):
    return type(value) is tuple and len(value) == 2


def is_bed(value):
    return (is_pair(value) and numbers_only(value)
            and -MAX_PLACE <= value[0] <= MAX_PLACE and 1 <= value[1] <= MAX_LITRES)


def garden_error(value):
    if type(value) is not tuple or len(value) != 3:
        return (None, "garden")
    if type(value[0]) is not int or abs(value[0]) > MAX_PLACE:
        return (None, "tap")
    if type(value[1]) is not int or value[1] < 1 or value[1] > MAX_CAN:
        return (None, "can")
    if type(value[2]) is not tuple or len(value[2]) > MAX_BEDS:
        return (None, "beds")
    for index, bed in enumerate(value[2]):
        # The part of the beds up to here is right if it is made of beds and sorted by place.
        places = [one[0] for one in value[2][:index + 1] if is_bed(one)]
        if not is_bed(bed) or places != sorted(set(places)):
            return (index, "bed")
    return None


def stretches_of(garden):
    """For each stretch, the litres of the beds on whose way from the tap it lies."""
    tap, _, beds = garden
    marks = sorted({tap, *dict(beds)})
    found = []
    for low, high in zip(marks, marks[1:]):
        litres = 0
        for place, wanted in beds:
            if min(tap, place) <= low and high <= max(tap, place):
                litres += wanted
        found.append((low, high, litres))
    return tuple(found)


def is_trip(garden, value):
    if type(value) is not tuple or value == ():
        return False
    if not all(is_pair(row) and numbers_only(row) for row in value):
        return False
    places = [place for place, _ in value]
    litres = [litres for _, litres in value]
    return (places == sorted(set(places)) and set(places) <= set(dict(garden[2]))
            and min(litres) >= 1 and sum(litres) <= garden[1])


def is_plan(garden, value):
    if type(value) is not tuple:
        return False
    if not all(is_pair(item) and is_trip(garden, item[0]) and type(item[1]) is int and item[1] >= 1
               for item in value):
        return False
    if list(value) != sorted(value) or len({trip for trip, _ in value}) != len(value):
        return False
    left = dict(garden[2])
    for trip, times in value:
        for place, litres in trip:
            left[place] -= litres * times
    return set(left.values()) <= {0}


def way_of_trip(garden, trip):
    """Walk to the places one by one and remember the ends."""
    low = high = garden[0]
    for place, _ in trip:
        low = min(low, place)
        high = max(high, place)
    return (high - low) * 2
