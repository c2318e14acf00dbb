"""The definitions of the document once more, written down slowly, to compare with."""

import re

from canpath.bounds import LIMIT, MAX_BEDS, MAX_CAN, MAX_LITRES, MAX_PLACE, MAX_ROWS


def numbers_only(values):
    return all(type(value) is int for value in values)


def is_pair(value):
    return type(value) is tuple and len(value) == 2


def is_bed(value):
    return (is_pair(value) and numbers_only(value)
            and -MAX_PLACE <= value[0] <= MAX_PLACE and 1 <= value[1] <= MAX_LITRES)


def garden_error(value):
    if type(value) is not tuple or len(value) != 3:
        return (None, "garden")
    if type(value[0]) is not int or abs(value[0]) > MAX_PLACE:
        return (None, "tap")
    if type(value[1]) is not int or value[1] < 1 or value[1] > MAX_CAN:
        return (None, "can")
    if type(value[2]) is not tuple or len(value[2]) > MAX_BEDS:
        return (None, "beds")
    for index, bed in enumerate(value[2]):
        # The part of the beds up to here is right if it is made of beds and sorted by place.
        places = [one[0] for one in value[2][:index + 1] if is_bed(one)]
        if not is_bed(bed) or places != sorted(set(places)):
            return (index, "bed")
    return None


def stretches_of(garden):
    """For each stretch, the litres of the beds on whose way from the tap it lies."""
    tap, _, beds = garden
    marks = sorted({tap, *dict(beds)})
    found = []
    for low, high in zip(marks, marks[1:]):
        litres = 0
        for place, wanted in beds:
            if min(tap, place) <= low and high <= max(tap, place):
                litres += wanted
        found.append((low, high, litres))
    return tuple(found)


def is_trip(garden, value):
    if type(value) is not tuple or value == ():
        return False
    if not all(is_pair(row) and numbers_only(row) for row in value):
        return False
    places = [place for place, _ in value]
    litres = [litres for _, litres in value]
    return (places == sorted(set(places)) and set(places) <= set(dict(garden[2]))
            and min(litres) >= 1 and sum(litres) <= garden[1])


def is_plan(garden, value):
    if type(value) is not tuple:
        return False
    if not all(is_pair(item) and is_trip(garden, item[0]) and type(item[1]) is int and item[1] >= 1
               for item in value):
        return False
    if list(value) != sorted(value) or len({trip for trip, _ in value}) != len(value):
        return False
    left = dict(garden[2])
    for trip, times in value:
        for place, litres in trip:
            left[place] -= litres * times
    return set(left.values()) <= {0}


def way_of_trip(garden, trip):
    """Walk to the places one by one and remember the ends."""
    low = high = garden[0]
    for place, _ in trip:
        low = min(low, place)
        high = max(high, place)
    return (high - low) * 2


def way_of(garden, plan):
    return sum(times * way_of_trip(garden, trip) for trip, times in plan)


def trips_of(plan):
    return sum(times for _, times in plan)


def farthest_first(garden, side):
    """(distance, litres) of the beds on the left side (-1) or the right side (1) of the tap."""
    tap, _, beds = garden
    return sorted([((place - tap) * side, litres) for place, litres in beds if (place - tap) * side > 0], reverse=True)


def way_litre_by_litre(garden):
    """Carry each litre from the farthest one on, and walk for each can that is begun."""
    way = 0
    for side in (-1, 1):
        room = 0
        for distance, litres in farthest_first(garden, side):
            for _ in range(litres):
                if room == 0:
                    way += 2 * distance
                    room = garden[1]
                room -= 1
    return way


def trips_litre_by_litre(garden):
    trips = room = 0
    for _, litres in garden[2]:
        for _ in range(litres):
            if room == 0:
                trips += 1
                room = garden[1]
            room -= 1
    return trips


def least_way(garden):
    """The same count as litre by litre, bed by bed."""
    way = 0
    for side in (-1, 1):
        room = 0
        for distance, litres in farthest_first(garden, side):
            begun = -(min(0, room - litres) // garden[1])
            way += 2 * distance * begun
            room += begun * garden[1] - litres
    return way


def fewest_trips(garden):
    whole, rest = divmod(sum(litres for _, litres in garden[2]), garden[1])
    return whole + (rest > 0)


def are_counts(garden, number, value):
    stretches = stretches_of(garden)
    if type(value) is not tuple or len(value) != len(stretches) or not numbers_only(value):
        return False
    way = 0
    for count, (low, high, litres) in zip(value, stretches):
        # The cans before the last one do not hold all of the litres.
        if count < 0 or (count > 0 and (count - 1) * garden[1] >= litres):
            return False
        way += (high - low) * 2 * count
    return way > number


def certificate_holds(garden, number, value):
    if not is_pair(value) or type(value[0]) is not str:
        return False
    if value[0] == "plan":
        return is_plan(garden, value[1]) and way_of(garden, value[1]) <= number
    return value[0] == "counts" and are_counts(garden, number, value[1])


def groupings(items):
    """All ways to put the items of a list into groups."""
    if not items:
        return [[]]
    found = []
    for groups in groupings(items[1:]):
        found.append([[items[0]]] + groups)
        for index, group in enumerate(groups):
            found.append(groups[:index] + [[items[0]] + group] + groups[index + 1:])
    return found


def all_plans(garden):
    """All plans, ascending: put the litres, one by one, into cans in all ways."""
    places = [place for place, litres in garden[2] for _ in range(litres)]
    found = set()
    for groups in groupings(places):
        if all(len(group) <= garden[1] for group in groups):
            trips = [tuple((place, group.count(place)) for place in sorted(set(group))) for group in groups]
            found.add(tuple((trip, trips.count(trip)) for trip in sorted(set(trips))))
    return sorted(found)


def are_rows(value):
    """Whether the value is the rows of a load."""
    if type(value) is not tuple or len(value) > MAX_ROWS:
        return False
    if not all(is_pair(row) and numbers_only(row) for row in value):
        return False
    places = [place for place, _ in value]
    return (places == sorted(set(places)) and all(abs(place) <= MAX_PLACE for place in places)
            and all(1 <= litres <= LIMIT for _, litres in value))


def grouped(number):
    """The digits of the number, with a comma before each three from the end."""
    digits, groups = str(abs(number)), []
    while digits:
        digits, group = digits[:-3], digits[-3:]
        groups.insert(0, group)
    return ("-" if number < 0 else "") + ",".join(groups)


def right_aligned(text):
    return " " * (10 - len(text)) + text


def load_text(rows):
    return "\n".join(right_aligned(grouped(place)) + ":" + right_aligned(grouped(litres)) for place, litres in rows)


NUMBER = re.compile(r"(?:0|-?[1-9][0-9]*)\Z", re.ASCII)


def written(word):
    """The number that is written as the word, or None."""
    return int(word) if NUMBER.match(word) else None


def text_error(value):
    """None for the text of a garden, otherwise the index that BadText has (as a tuple of one)."""
    if type(value) is not str:
        return (None,)
    words = value.split(" ")
    for index, word in enumerate(words[:4]):
        if index == 3 or not is_word_at(index, word):
            return (index,)
    return None if len(words) == 3 else (len(words),)


def is_word_at(index, word):
    if index == 0:
        return written(word) is not None and abs(written(word)) <= MAX_PLACE
    if index == 1:
        return written(word) is not None and 1 <= written(word) <= MAX_CAN
    if word == "none":
        return True
    pairs = [part.split(":") for part in word.split(",")]
    if any(len(pair) != 2 for pair in pairs):
        return False
    return garden_error((0, 1, tuple((written(one), written(other)) for one, other in pairs))) is None


def grown(garden, place, more):
    """The garden that wants so many litres more at the place, perhaps beyond the limits."""
    tap, can, beds = garden
    wanted = dict(beds)
    wanted[place] = wanted.get(place, 0) + more
    return (tap, can, tuple(sorted(wanted.items())))


def after(garden, edit):
    """The garden after an edit that can be done."""
    tap, can, beds = garden
    name, *values = edit
    if name == "move":
        return (values[0], can, beds)
    if name == "fill":
        return (tap, values[0], beds)
    wanted = dict(beds)
    wanted.pop(values[0], None)
    if values[1] != 0:
        wanted[values[0]] = values[1]
    return (tap, can, tuple(sorted(wanted.items())))


def is_within(value, low, high):
    return type(value) is int and low <= value <= high


def edit_error(garden, many, edit, most=None):
    """The name and the fields of the error of an edit while so many stand, or None."""
    name, *values = edit
    if many >= 60:
        return ("TooManyEdits",)
    if name in ("want", "move") and not is_within(values[0], -MAX_PLACE, MAX_PLACE):
        return ("BadPlace", values[0])
    if name == "want" and not is_within(values[1], 0, MAX_LITRES):
        return ("BadLitres", values[1])
    if name == "want" and values[1] > 0 and values[0] not in dict(garden[2]) and len(garden[2]) == MAX_BEDS:
        return ("TooManyBeds",)
    if name == "fill" and not is_within(values[0], 1, MAX_CAN):
        return ("BadCan", values[0])
    if most is not None and least_way(after(garden, edit)) > most:
        return ("TooLong", least_way(after(garden, edit)))
    return None


def is_edit(value):
    return (type(value) is tuple and len(value) > 0 and type(value[0]) is str
            and (value[0], len(value)) in (("want", 3), ("move", 2), ("fill", 2)))


def plot_text(garden, many):
    """What str tells of a plot with so many edits."""
    litres = sum(wanted for _, wanted in garden[2])
    way, trips = least_way(garden), fewest_trips(garden)
    return f"{len(garden[2])} beds, {litres} litres, way {way}, {trips} trips, {many} edits"


def walked(garden):
    """The stretches with how often each is walked at least."""
    return [(low, high, litres, -(-litres // garden[1])) for low, high, litres in stretches_of(garden)]
