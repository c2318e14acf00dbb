"""Gardens as texts, and back."""

from canpath.bounds import MAX_BEDS, MAX_CAN
from canpath.checks import is_number_within, is_place
from canpath.errors import BadText
from canpath.gardens import bed_error

# No number of a garden has more digits, and no command takes a number with more.
MOST_DIGITS = 10


def garden_text(garden):
    """Return the text of a garden."""
    tap, can, beds = garden
    return f"{tap} {can} {beds_text(beds)}"


def beds_text(beds):
    """Return the word for the beds."""
    if len(beds) == 0:
        return "none"
    return ",".join([f"{place}:{litres}" for place, litres in beds])


def parse_garden(value):
    """Return the garden whose text any value is."""
    if not isinstance(value, str):
        raise BadText(None)
    parts = []
    for index, word in enumerate(value.split(" ")):
        part = part_in(index, word)
        if part is None:
            raise BadText(index)
        parts.append(part)
    if len(parts) < 3:
        raise BadText(len(parts))
    return tuple(parts)


def part_in(index, word):
    """Return the part of a garden that the word with this index tells, or None if it is wrong there."""
    if index == 0:
        return tap_in(word)
    if index == 1:
        return can_in(word)
    if index == 2:
        return beds_in(word)
    return None


def tap_in(word):
    """Return the place of the tap, or None if the word is not a place."""
    place = number_in(word)
    return place if is_place(place) else None


def can_in(word):
    """Return the litres of the can, or None if no can holds so many."""
    can = number_in(word)
    return can if is_number_within(can, 1, MAX_CAN) else None


def beds_in(word):
    """Return the beds, or None if the word does not tell beds."""
    if word == "none":
        return ()
    beds = tuple([numbers_in(part) for part in word.split(",")])
    if len(beds) > MAX_BEDS or bed_error(beds) is not None:
        return None
    return beds


def numbers_in(part):
    """Return the tuple of what is written between colons, with None for what is no number."""
    return tuple([number_in(word) for word in part.split(":")])


def number_in(word):
    """Return the number that the word is written for, or None."""
    digits = word.removeprefix("-")
    if len(digits) > MOST_DIGITS or not digits.isascii() or not digits.isdigit():
        return None
    number = int(word)
    # Python reads leading zeros and -0, too, but no number is written so.
    return number if str(number) == word else None
