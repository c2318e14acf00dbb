"""Gardens, trips, plans and changed values for the tests, the same in every run."""

from canpath.bounds import MAX_BEDS, MAX_CAN, MAX_LITRES, MAX_PLACE

S = (0, 2, ((1, 1), (3, 2)))
G = (0, 3, ((2, 4), (5, 1), (6, 3)))

LONG = 10 ** 40 - 1


def nested(depth):
    """A tuple in a tuple in a tuple."""
    value = ()
    for _ in range(depth):
        value = (value,)
    return value


# Nothing in here is a number, a tuple of rows, a garden, a trip or a plan.
STRANGE = (
    None, True, False, "", "a", "ab", "abc", "0 2 1:1,3:2", "1", "line\nfeed", "x" * 2000,
    [], [0], [0, 1], [0, 1, ()], [[1, 1]], [(1, 1)], [((1, 1),), 1],
    {}, {"a": 1}, {"a": 1, "b": 2}, {"tap": 0, "can": 2, "beds": ()},
    nested(19), (None,) * 1000, (None, None), (None, None, None), ("a", "b"), ((), ()), ((), (), ()),
)

# Numbers at and around all limits.
NUMBERS = (
    0, 1, -1, 2, 3, MAX_BEDS, MAX_CAN, MAX_CAN + 1, -MAX_PLACE, -MAX_PLACE - 1,
    MAX_LITRES, MAX_LITRES + 1, LONG, -LONG,
)


class Dice:
    """Numbers that look thrown, but are the same in every run and every Python."""

    def __init__(self, seed):
        self.state = seed

    def throw(self, many):
        """A number from 0 to many - 1."""
        self.state = (self.state * 6364136223846793005 + 1442695040888963407) % 2 ** 64
        return (self.state >> 24) % many

    def pick(self, items):
        return items[self.throw(len(items))]


def some_garden(dice, many, small=False):
    """A garden with so many beds; the tap is at, between or beside them."""
    place = dice.throw(40) - 40
    beds = []
    for _ in range(many):
        place += 1 + dice.throw(6)
        litres = 1 + dice.throw(9)
        if not small:
            litres = dice.pick((1, litres, litres, 1000 + litres, MAX_LITRES - litres, MAX_LITRES))
        beds.append((place, litres))
    marks = [bed[0] for bed in beds] + [place + 1]
    tap = dice.pick(marks) + dice.throw(5) - 2
    can = dice.pick((1, 2, 3, 5, 8) if small else (1, 2, 3, 7, 50, 1000, MAX_CAN))
    return (tap, can, tuple(beds))


def some_trip(dice, garden, left):
    """A trip that brings no bed more than is left; the dict has only beds that want something."""
    room = garden[1]
    rows = []
    for place in sorted(left):
        if room > 0 and dice.throw(2) == 0:
            litres = dice.pick((1, min(room, left[place]), 1 + dice.throw(min(room, left[place]))))
            rows.append((place, litres))
            room -= litres
    if not rows:
        place = dice.pick(sorted(left))
        rows.append((place, min(room, left[place])))
    return tuple(rows)


def some_plan(dice, garden):
    """A plan of the garden, rarely a short one."""
    left = dict(garden[2])
    made = {}
    while left:
        trip = some_trip(dice, garden, left)
        most = min(left[place] // litres for place, litres in trip)
        times = dice.pick((1, most, 1 + dice.throw(most)))
        made[trip] = made.get(trip, 0) + times
        for place, litres in trip:
            left[place] -= times * litres
            if left[place] == 0:
                del left[place]
    return tuple(sorted(made.items()))


def spread_garden(many, tap, can=5):
    """A garden with so many beds from one end of the path to the other."""
    step = 2 * MAX_PLACE // max(1, many - 1)
    places = [-MAX_PLACE + index * step for index in range(many)]
    if many > 1:
        places[-1] = MAX_PLACE
    return (tap, can, tuple((place, index + 1) for index, place in enumerate(places)))


def changed(value, others):
    """All values that come from the value by one change at one part, at any depth."""
    yield from others
    if not isinstance(value, tuple):
        return
    yield list(value)
    yield value[::-1]
    for other in others:
        yield value + (other,)
    for index, part in enumerate(value):
        head, tail = value[:index], value[index + 1:]
        yield head + tail
        yield head + (part,) + value[index:]
        for other in others:
            yield head + (other,) + value[index:]
        for inner in changed(part, others):
            yield head + (inner,) + tail
