"""What more litres cost, and which can is large enough."""

from canpath.gardens import litres_at, litres_wanted, stretches_of, wanting
from canpath.ways import cans_for, least_way


def extra_way(garden, place):
    """Return by how much the least way grows if one litre more is wanted at the place."""
    return least_way(with_a_litre_more(garden, place)) - least_way(garden)


def with_a_litre_more(garden, place):
    """Return the garden in which one litre more is wanted at the place."""
    return wanting(garden, place, litres_at(garden, place) + 1)


def free_litres(garden, place):
    """Return how many litres more can be wanted at the place for the same way, or None for any number."""
    tap, can, beds = garden
    if place == tap:
        return None
    return min([room_in_cans(litres, can) for litres in litres_on_the_way(garden, place)])


def litres_on_the_way(garden, place):
    """Return the list of the litres beyond each stretch between the tap and the place."""
    low_end, high_end = sorted([garden[0], place])
    # The litre more makes the place a mark; it is beyond each of these stretches and is taken off again.
    stretches = stretches_of(with_a_litre_more(garden, place))
    return [litres - 1 for low, high, litres in stretches if low_end <= low and high <= high_end]


def room_in_cans(litres, can):
    """Return how many litres more the cans for these litres can hold."""
    return cans_for(litres, can) * can - litres


def least_can(garden, number):
    """Return the litres of the least can with which the least way is at most the number, or None."""
    tap, can, beds = garden
    # One can for all litres walks each stretch once, and no larger can walks less.
    low, high = 1, max(1, litres_wanted(garden))
    if least_way((tap, high, beds)) > number:
        return None
    while low < high:
        middle = (low + high) // 2
        if least_way((tap, middle, beds)) <= number:
            high = middle
        else:
            low = middle + 1
    return low
