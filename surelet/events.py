"""Events: the forms of what happens in a house, and what all houses that run do with them."""

from surelet.deeds import is_deed
from surelet.errors import BadMoment, BadReading, NoSuchLetter
from surelet.words import is_from, is_name, is_whole

# What stands behind the word of an event.
EVENTS = {
    "deed": ("moment", "server", "deed"),
    "lose": ("number",),
    "fall": ("moment", "server", "any"),
    "wake": ("moment", "server", "number"),
    "crash": ("moment", "server", "deed", "any"),
}
PLAIN_WORDS = ("tick", "use", "lend", "prolong", "give", "recall", "carry")
# The deeds that send a letter, unless both places are on one server.
SENDING_WORDS = ("lend", "prolong", "give")


def is_event(value):
    """Whether any value is an event of a world."""
    if not isinstance(value, tuple) or len(value) == 0 or not isinstance(value[0], str):
        return False
    kinds = EVENTS.get(value[0])
    if kinds is None or len(value) != len(kinds) + 1:
        return False
    return all([fits_event(kind, item) for kind, item in zip(kinds, value[1:])])


def fits_event(kind, item):
    """Whether an item of an event is of its kind."""
    if kind == "moment":
        return is_from(item, 0)
    if kind == "server":
        return is_name(item)
    if kind == "number":
        return is_whole(item)
    # What a server receives in a world is told by an index, as a deed carry.
    return kind == "any" or (is_deed(item) and item[0] != "receive")


def is_plain_event(value):
    """Whether any value is an event of a plain house."""
    return is_event(value) and value[0] == "deed" and value[3][0] in PLAIN_WORDS


def is_of_rule(deed, rule):
    """Whether a deed that purses do, or a carry, is one of a rule; a tick and a carry are of any."""
    if deed[0] in ("tick", "carry"):
        return True
    if deed[0] == "receive":
        return deed[2][1] == rule
    return deed[2] == rule


def check_time(now, moment, server, error, reading):
    """Raises the error of a moment that lies back, or of a reading that the clock of a server cannot show then."""
    if moment < now:
        raise BadMoment(moment)
    if abs(reading - moment) > error:
        raise BadReading(server, reading)


def check_letter(letters, index):
    """Raises NoSuchLetter unless a list of letters, with None for lost ones, has a letter with this index."""
    if not 0 <= index < len(letters) or letters[index] is None:
        raise NoSuchLetter(index)


def carried(deed, letters):
    """The deed itself; for a deed carry, the one that receives its letter."""
    word, reading, *items = deed
    if word != "carry":
        return deed
    index = items[0]
    check_letter(letters, index)
    return ("receive", reading, letters[index])


def letter_sent(deed, answer):
    """The letter that a deed sent, by what it returned; None if it sent none."""
    if deed[0] not in SENDING_WORDS:
        return None
    return answer[1] if deed[0] == "lend" else answer
