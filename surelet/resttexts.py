"""Rests that are read from their texts."""

from surelet.bounds import MOST_FORMS
from surelet.errors import InvalidText, SureletError
from surelet.rests import Days, Later, Next, Sooner, Window
from surelet.words import number_from


def read_rest(text):
    """The rest with this text; raises InvalidText for any value that is none."""
    # Each bracket opens a form, and this bound keeps the reading of brackets within one another shallow.
    if not isinstance(text, str) or text.count("(") > MOST_FORMS:
        raise InvalidText(text)
    try:
        return rest_from(text)
    except SureletError:
        raise InvalidText(text) from None


def rest_from(text):
    """The rest with this text, or an error of some part of it."""
    word, bracket, inside = text.partition("(")
    if not bracket:
        return plain_rest(text)
    if not inside.endswith(")"):
        raise InvalidText(text)
    first, second = halves(inside[:-1])
    return joined_rest(word, rest_from(first), rest_from(second))


def plain_rest(text):
    """The window or the days with this text."""
    words = text.split(" ")
    if len(words) == 2 and words[0] == "window":
        return Window(number_from(words[1]))
    if len(words) >= 3 and words[0] == "days" and words[-2] == "then":
        return Days([number_from(word) for word in words[1:-2]], number_from(words[-1]))
    raise InvalidText(text)


def halves(text):
    """The texts on both sides of the comma that stands outside of all brackets."""
    depth = 0
    for at, sign in enumerate(text):
        if sign == "(":
            depth += 1
        elif sign == ")":
            depth -= 1
        elif depth == 0 and text[at:at + 2] == ", ":
            return text[:at], text[at + 2:]
    raise InvalidText(text)


def joined_rest(word, first, second):
    """The two rests, joined by a word."""
    if word == "later":
        return Later(first, second)
    if word == "sooner":
        return Sooner(first, second)
    if word == "next":
        return Next(first, second)
    raise InvalidText(word)
