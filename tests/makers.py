"""Gardens, trips, plans and changed values for the tests, the same in every run."""

from canpath.bounds import LIMIT, MAX_BEDS, MAX_CAN, MAX_LITRES, MAX_PLACE
from canpath.errors import PathError

S = (0, 2, ((1, 1), (3, 2)))
G = (0, 3, ((2, 4), (5, 1), (6, 3)))

LONG = 10 ** 40 - 1


def nested(depth):
    """A tuple in a tuple in a tuple."""
    value = ()
    for _ in range(depth):
        value = (value,)
    return value


# Nothing in here is a number, a tuple of rows, a garden, a trip or a plan.
STRANGE = (
    None, True, False, "", "a", "ab", "abc", "0 2 1:1,3:2", "1", "line\nfeed", "x" * 2000,
    [], [0], [0, 1], [0, 1, ()], [[1, 1]], [(1, 1)], [((1, 1),), 1],
    {}, {"a": 1}, {"a": 1, "b": 2}, {"tap": 0, "can": 2, "beds": ()},
    nested(19), (None,) * 1000, (None, None), (None, None, None), ("a", "b"), ((), ()), ((), (), ()),
)

# Numbers at and around all limits.
NUMBERS = (
    0, 1, -1, 2, 3, MAX_BEDS, MAX_CAN, MAX_CAN + 1, -MAX_PLACE, -MAX_PLACE - 1,
    MAX_LITRES, MAX_LITRES + 1, LONG, -LONG,
)


class Dice:
    """Numbers that look thrown, but are the same in every run and every Python."""

    def __init__(self, seed):
        self.state = seed

    def throw(self, many):
        """A number from 0 to many - 1."""
        self.state = (self.state * 6364136223846793005 + 1442695040888963407) % 2 ** 64
        return (self.state >> 24) % many

    def pick(self, items):
        return items[self.throw(len(items))]


def some_garden(dice, many, small=False):
    """A garden with so many beds; the tap is at, between or beside them."""
    place = dice.throw(40) - 40
    beds = []
    for _ in range(many):
        place += 1 + dice.throw(6)
        litres = 1 + dice.throw(9)
        if not small:
            litres = dice.pick((1, litres, litres, 1000 + litres, MAX_LITRES - litres, MAX_LITRES))
        beds.append((place, litres))
    marks = [bed[0] for bed in beds] + [place + 1]
    tap = dice.pick(marks) + dice.throw(5) - 2
    can = dice.pick((1, 2, 3, 5, 8) if small else (1, 2, 3, 7, 50, 1000, MAX_CAN))
    return (tap, can, tuple(beds))


def some_trip(dice, garden, left):
    """A trip that brings no bed more than is left; the dict has only beds that want something."""
    room = garden[1]
    rows = []
    for place in sorted(left):
        if room > 0 and dice.throw(2) == 0:
            litres = dice.pick((1, min(room, left[place]), 1 + dice.throw(min(room, left[place]))))
            rows.append((place, litres))
            room -= litres
    if not rows:
        place = dice.pick(sorted(left))
        rows.append((place, min(room, left[place])))
    return tuple(rows)


def some_plan(dice, garden):
    """A plan of the garden, rarely a short one."""
    left = dict(garden[2])
    made = {}
    while left:
        trip = some_trip(dice, garden, left)
        most = min(left[place] // litres for place, litres in trip)
        times = dice.pick((1, most, 1 + dice.throw(most)))
        made[trip] = made.get(trip, 0) + times
        for place, litres in trip:
            left[place] -= times * litres
            if left[place] == 0:
                del left[place]
    return tuple(sorted(made.items()))


def spread_garden(many, tap, can=5):
    """A garden with so many beds from one end of the path to the other."""
    step = 2 * MAX_PLACE // max(1, many - 1)
    places = [-MAX_PLACE + index * step for index in range(many)]
    if many > 1:
        places[-1] = MAX_PLACE
    return (tap, can, tuple((place, index + 1) for index, place in enumerate(places)))


LITRES = ("few", "around the can", "any")
SIDES = ("left", "right", "both", "at the tap")


def some_can_and_litres(dice, many, litres):
    """The litres that a can holds, and the litres of so many beds."""
    if litres == "few":
        return dice.pick((1, 2, 3, 5, 8, 20)), [1 + dice.throw(9) for _ in range(many)]
    if litres == "around the can":
        can = dice.pick((1, 2, 3, 7, 50, 1000, MAX_CAN))
        return can, [max(1, can * (1 + dice.throw(3)) + dice.throw(3) - 1) for _ in range(many)]
    can = dice.pick((1, 2, 3, 1000, MAX_CAN, 1 + dice.throw(MAX_CAN)))
    wanted = [dice.pick((1, 1 + dice.throw(1000), MAX_LITRES - dice.throw(9), 1 + dice.throw(MAX_LITRES)))
              for _ in range(many)]
    return can, wanted


def sided_garden(dice, many, litres, side):
    """A garden with so many beds that lie, seen from the tap, on this side."""
    can, wanted = some_can_and_litres(dice, many, litres)
    places = [dice.throw(50) - 50]
    while len(places) < many:
        places.append(places[-1] + 2 + dice.throw(dice.pick((1, 9, 1000))))
    tap = dice.pick(places)
    if side == "left":
        tap = places[-1] + 1 + dice.throw(5)
    if side == "right":
        tap = places[0] - 1 - dice.throw(5)
    if side == "both":
        tap = dice.pick(places[:-1] or places) + 1
    return (tap, can, tuple(zip(places, wanted)))


def sided_gardens(seed, each=3, litres=LITRES):
    """Gardens of none to twelve beds, on all sides and with all these litres."""
    dice = Dice(seed)
    return [sided_garden(dice, many, amount, side)
            for many in range(MAX_BEDS + 1) for amount in litres for side in SIDES for _ in range(each)]


def gardens_at_the_bounds():
    """Gardens whose places, can and litres are the least and the greatest ones."""
    found = []
    for can in (1, 2, MAX_CAN - 1, MAX_CAN):
        for tap in (-MAX_PLACE, -1, 0, MAX_PLACE):
            found.append((tap, can, ()))
            for many in (1, 2, MAX_BEDS):
                places = [place for place, _ in spread_garden(many, tap)[2]]
                for litres in (1, MAX_CAN + 1, MAX_LITRES - 1, MAX_LITRES):
                    found.append((tap, can, tuple((place, litres) for place in places)))
            for first in (-MAX_PLACE, 0, MAX_PLACE - MAX_BEDS + 1):
                found.append((tap, can, tuple((first + index, MAX_LITRES) for index in range(MAX_BEDS))))
    return found


def mirrored(garden):
    tap, can, beds = garden
    return (-tap, can, tuple((-place, litres) for place, litres in reversed(beds)))


def together(one, other):
    """The garden with the beds of both, which have the same tap and can."""
    wanted = dict(one[2])
    for place, litres in other[2]:
        wanted[place] = wanted.get(place, 0) + litres
    return (one[0], one[1], tuple(sorted(wanted.items())))


def collected(trips):
    """The plan with these trips, each as often as it is in the list."""
    return tuple((trip, trips.count(trip)) for trip in sorted(set(trips)))


def each_made(plan):
    """The trips of a plan, each as often as it is made."""
    return [trip for trip, times in plan for _ in range(times)]


def changed(value, others):
    """All values that come from the value by one change at one part, at any depth."""
    yield from others
    if not isinstance(value, tuple):
        return
    yield list(value)
    yield value[::-1]
    for other in others:
        yield value + (other,)
    for index, part in enumerate(value):
        head, tail = value[:index], value[index + 1:]
        yield head + tail
        yield head + (part,) + value[index:]
        for other in others:
            yield head + (other,) + value[index:]
        for inner in changed(part, others):
            yield head + (inner,) + tail


def some_places(dice, many, far):
    """So many ascending places, near one another or all over the path."""
    if not far:
        places = [dice.throw(60) - 60]
        while len(places) < many:
            places.append(places[-1] + 1 + dice.throw(2))
        return places[:many]
    places = {-MAX_PLACE, MAX_PLACE}
    while len(places) < many:
        places.add(dice.throw(2 * MAX_PLACE + 1) - MAX_PLACE)
    return sorted(places)[:many]


def some_rows(dice, many, far=False, most=9):
    """The rows of a load with up to so many places, each with at most so many litres."""
    return tuple((place, dice.pick((1, most, 1 + dice.throw(most)))) for place in some_places(dice, many, far))


def error_of(call, *values, **named):
    """The name and the fields of the error that the call raises, or None."""
    try:
        call(*values, **named)
    except (PathError, LookupError) as error:
        return (type(error).__name__, *vars(error).values())
    return None


def places_near(garden):
    """Places at, beside and between the beds, at and beside the tap, and at both ends of the path."""
    marks = sorted({garden[0], *dict(garden[2])})
    places = {place + by for place in marks for by in (-1, 0, 1)}
    places |= {(low + high) // 2 for low, high in zip(marks, marks[1:])} | {-MAX_PLACE, MAX_PLACE}
    return [place for place in sorted(places) if abs(place) <= MAX_PLACE]


def some_edit(dice, garden):
    """An edit that can mostly be done, of all kinds, also with litres of 0."""
    tap, can, beds = garden
    near = [place for place, _ in beds] + [tap, tap + 1, tap - 1, dice.throw(60) - 30]
    kind = dice.throw(6)
    if kind == 0:
        return ("move", dice.pick(near + [-MAX_PLACE, MAX_PLACE]))
    if kind == 1:
        return ("fill", dice.pick((1, 2, 3, 5, can, MAX_CAN, 1 + dice.throw(50))))
    return ("want", dice.pick(near), dice.pick((0, 0, 1, 2, can, can + 1, 1 + dice.throw(99), MAX_LITRES)))


def some_wrong_edit(dice):
    """An edit with values of all kinds, of which one or two are wrong in most cases."""
    values = STRANGE + NUMBERS
    name = dice.pick(("want", "want", "move", "fill"))
    if name == "want":
        return (name, dice.pick((*values, 3, 3, 3)), dice.pick((*values, 1, 1)))
    return (name, dice.pick(values))


def do_edit(plot, edit):
    """Call the method of the edit's name."""
    return getattr(plot, edit[0])(*edit[1:])


def asked_at(plot, version):
    """The answers of the plot at one version."""
    numbers = (0, plot.way, max(0, plot.way - 1), LIMIT)
    return (plot.state(version=version), list(plot.walk(version=version)),
            [plot.certificate(number, version=version) for number in (0, LIMIT)],
            version is None and [plot.certificate(number) for number in numbers])


def shown(plot):
    """All that a plot tells, now and at each version."""
    told = [plot.garden, plot.way, plot.trips, len(plot), str(plot), plot.edits()]
    return told + [asked_at(plot, version) for version in (None, *range(len(plot) + 1))]
