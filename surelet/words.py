"""What counts as a number and as a name."""

LETTERS = "abcdefghijklmnopqrstuvwxyz"
DIGITS = "0123456789"


def is_number(value, least, most):
    """Whether any value is a number from least to most."""
    # Python counts True and False as integers, the document does not.
    return isinstance(value, int) and not isinstance(value, bool) and least <= value <= most


def is_name(value):
    """Whether any value is a name."""
    if not isinstance(value, str) or not 1 <= len(value) <= 8:
        return False
    return value[0] in LETTERS and all([sign in LETTERS or sign in DIGITS for sign in value])
