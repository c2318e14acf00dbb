"""The errors of the package, each with the values that it was made from."""


class PathError(ValueError):
    """The base of all errors but those of a look-up."""


class TooLarge(PathError):
    """More litres are wanted together than the bound allows."""

    def __init__(self, bound):
        self.bound = bound


class BadLoad(PathError):
    """The value is not the rows of a load."""

    def __init__(self, value):
        self.value = value


class TooMuch(PathError):
    """A load would have too many rows, or too many litres at a place."""


class Missing(PathError):
    """More litres would be taken off the place than are there."""

    def __init__(self, place):
        self.place = place


class BadGarden(PathError):
    """The value is not a garden; the error tells where and why."""

    def __init__(self, error):
        self.error = error


class BadTrip(PathError):
    """The value is not a trip in the garden."""

    def __init__(self, value):
        self.value = value


class TooWet(PathError):
    """A trip brings the place more litres than are still wanted there."""

    def __init__(self, place):
        self.place = place


class Busy(PathError):
    """The plot is being watched and cannot be edited."""


class TooManyEdits(PathError):
    """As many edits stand as a plot can have."""


class BadPlace(PathError):
    """The value is not a place."""

    def __init__(self, value):
        self.value = value


class BadLitres(PathError):
    """The value is not a number of litres that a bed can want."""

    def __init__(self, value):
        self.value = value


class TooManyBeds(PathError):
    """The garden has as many beds as it can have."""


class BadCan(PathError):
    """The value is not a number of litres that a can may hold."""

    def __init__(self, value):
        self.value = value


class NothingToUndo(PathError):
    """No edit stands."""


class BadEdits(PathError):
    """The value is not a batch of edits."""


class BadEdit(PathError):
    """The item with this index is not an edit."""

    def __init__(self, index):
        self.index = index


class Rejected(PathError):
    """The edit with this index could not be done."""

    def __init__(self, index):
        self.index = index


class BadNumber(PathError):
    """The value is not a number within the limit."""

    def __init__(self, value):
        self.value = value


class TooLong(PathError):
    """The number is greater than the bound allows."""

    def __init__(self, number):
        self.number = number


class BadText(PathError):
    """The text is wrong at the word with this index."""

    def __init__(self, index):
        self.index = index


class NoPlace(LookupError):
    """The value is not a place to look at."""

    def __init__(self, value):
        self.value = value


class NoVersion(LookupError):
    """The value is not a version of the plot."""

    def __init__(self, value):
        self.value = value
