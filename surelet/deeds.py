"""Deeds: what one server does, as tuples."""

from surelet.errors import InvalidDeed, WrongLetter
from surelet.letters import is_letter
from surelet.words import is_name, is_whole

# What stands behind the word of a deed, the reading first.
DEEDS = {
    "tick": ("number",),
    "request": ("number", "name", "number"),
    "enter": ("number", "name", "name", "number", "maybe"),
    "use": ("number", "name", "name", "number", "maybe"),
    "lend": ("number", "name", "name", "name", "number", "maybe", "maybe"),
    "prolong": ("number", "name", "number", "maybe"),
    "give": ("number", "name", "name", "number", "any"),
    "recall": ("number", "name", "name", "number"),
    "receive": ("number", "letter"),
    "carry": ("number", "number"),
}
PURSE_WORDS = ("tick", "use", "lend", "prolong", "give", "recall", "receive")


def is_deed(value):
    """Whether any value is a tuple of the form of a deed, whatever its numbers."""
    if not isinstance(value, tuple) or len(value) == 0 or not isinstance(value[0], str):
        return False
    kinds = DEEDS.get(value[0])
    if kinds is None or len(value) != len(kinds) + 1:
        return False
    return all([fits_deed(kind, item) for kind, item in zip(kinds, value[1:])])


def fits_deed(kind, item):
    """Whether an item of a deed is of its kind."""
    if kind == "number":
        return is_whole(item)
    if kind == "name":
        return is_name(item)
    if kind == "maybe":
        return item is None or is_whole(item)
    return kind == "any" or is_letter(item)


def is_purse_deed(value):
    """Whether any value is a deed that a purse can do by itself."""
    return is_deed(value) and value[0] in PURSE_WORDS


def perform(purse, deed):
    """Does a deed on a purse; returns what the operation returns."""
    if not is_purse_deed(deed):
        raise InvalidDeed(deed)
    word, reading, *items = deed
    if word == "tick":
        return purse.settle(reading)
    own = purse.tree.rule.name
    if word == "receive":
        letter = items[0]
        if letter[1] != own:
            raise WrongLetter(letter)
        return purse.receive(reading, letter)
    rule, *told = items
    if rule != own:
        raise InvalidDeed(deed)
    return operate(purse, word, reading, told)


def operate(purse, word, reading, told):
    """Does the operation of a word on a purse, with what its deed tells behind the rule."""
    if word == "use":
        place, n, lot = told
        return purse.use(reading, place, n, lot=lot)
    if word == "lend":
        place, child, n, until, lot = told
        return purse.lend(reading, place, child, n, until=until, lot=lot)
    if word == "prolong":
        return purse.prolong(reading, *told)
    if word == "give":
        return purse.give_back(reading, *told)
    return purse.recall(reading, *told)
