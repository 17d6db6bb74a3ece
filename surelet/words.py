"""What counts as a number and as a name, and how both are read and looked up."""

from surelet.errors import UnknownName

LETTERS = "abcdefghijklmnopqrstuvwxyz"
DIGITS = "0123456789"


def is_whole(value):
    """Whether any value is a number, however small or great."""
    # Python counts True and False as integers, the document does not.
    return isinstance(value, int) and not isinstance(value, bool)


def is_from(value, least):
    """Whether any value is a number from least on."""
    return is_whole(value) and least <= value


def is_number(value, least, most):
    """Whether any value is a number from least to most."""
    return is_whole(value) and least <= value <= most


def is_name(value):
    """Whether any value is a name."""
    if not isinstance(value, str) or not 1 <= len(value) <= 8:
        return False
    return value[0] in LETTERS and all([sign in LETTERS or sign in DIGITS for sign in value])


def number_from(word):
    """The number from 1 on that is written as this word, None if it is none without zeros ahead."""
    # No number in a text is longer; a very long one could not even be turned into an integer.
    if not 1 <= len(word) <= 9 or word[0] == "0" or not all([sign in DIGITS for sign in word]):
        return None
    return int(word)


def has_name(table, value):
    """Whether any value is a name among the keys of a dict."""
    # A value that is no name might be one that no dict can look up.
    return is_name(value) and value in table


def look_up(table, value):
    """What a dict has under a name; raises UnknownName for any other value."""
    if not has_name(table, value):
        raise UnknownName(value)
    return table[value]
