"""The limits of the package, by name."""

LIMIT = 10 ** 18
MAX_PLACE = 10 ** 6
MAX_CAN = 10 ** 6
MAX_LITRES = 10 ** 9
MAX_BEDS = 12
MAX_ROWS = 50
SMALL = 6
MAX_EDITS = 60
BATCH = 20
