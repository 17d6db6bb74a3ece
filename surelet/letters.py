"""The forms of letters and parts."""

from surelet.words import is_from, is_name, is_whole

# What stands behind the word of a letter.
LETTERS = {
    "lend": ("name", "name", "number", "number", "number"),
    "extend": ("name", "name", "number", "number"),
    "back": ("name", "name", "number", "number", "parts"),
}


def is_letter(value):
    """Whether any value is a tuple of one of the forms of letters, whatever its numbers."""
    if not isinstance(value, tuple) or len(value) == 0 or not isinstance(value[0], str):
        return False
    kinds = LETTERS.get(value[0])
    if kinds is None or len(value) != len(kinds) + 1:
        return False
    return all([fits(kind, item) for kind, item in zip(kinds, value[1:])])


def fits(kind, item):
    """Whether an item of a letter is of its kind."""
    if kind == "name":
        return is_name(item)
    if kind == "number":
        return is_whole(item)
    return isinstance(item, tuple) and all([is_part(part) for part in item])


def is_part(value):
    """Whether any value is a pair of numbers."""
    return isinstance(value, tuple) and len(value) == 2 and is_whole(value[0]) and is_whole(value[1])


def is_parts(value):
    """Whether any value is a list of parts: at least one, with ascending moments, and with chips in each."""
    if not isinstance(value, (list, tuple)) or len(value) == 0:
        return False
    least = 0
    for part in value:
        if not is_part(part) or part[0] < least or part[1] < 1:
            return False
        least = part[0] + 1
    return True


def is_sound(letter):
    """Whether a letter has numbers from 1 on, and parts as they can be given back."""
    if letter[0] == "back":
        _, _, _, number, k, parts = letter
        return number >= 1 and k >= 1 and is_parts(parts)
    return all([is_from(value, 1) for value in letter[3:]])
