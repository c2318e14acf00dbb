"""Bounds that a way must keep to."""

from canpath.bounds import LIMIT
from canpath.checks import is_number_within
from canpath.errors import BadNumber, TooLong


class Bound:
    """The greatest number that is allowed."""

    def __init__(self, most):
        if not is_number_within(most, 0, LIMIT):
            raise BadNumber(most)
        self.most = most

    def room(self, number):
        """Return how much is left up to the bound."""
        if not is_number_within(number, 0, LIMIT):
            raise BadNumber(number)
        if number > self.most:
            raise TooLong(number)
        return self.most - number
