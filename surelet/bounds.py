"""The bounds that are kept by an error, in one place, and the bounds of single numbers."""

from surelet.errors import TooMany

MOST_FORMS = 6
MOST_BORDERS = 12
# Bounds both the period of one Days and the common one of several rests.
MOST_PERIOD = 2000
MOST_PLACES = 24
MOST_SERVERS = 6
MOST_RULES = 12
MOST_CUSTOMERS = 12
MOST_ROOMS = 6
MOST_WAITING = 40
MOST_ROWS = 64
MOST_NET_PLACES = 12
MOST_BOOKED = 60
# Bounds the last moment of a prompt run.
MOST_LAST = 200
# Bounds chips of a rule, widths of windows and borders alike.
MOST_SIZE = 1000
MOST_COST = 1000
# Bounds errors of clocks and delays alike.
MOST_ERROR = 100
MOST_WEIGHT = 12


def check_count(what, count, most):
    """Raises TooMany if there are more than the bound."""
    if count > most:
        raise TooMany(what, count)
