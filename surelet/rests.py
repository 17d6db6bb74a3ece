"""Rests: when a chip that was used may be used again."""

from math import lcm

from surelet.bounds import MOST_BORDERS, MOST_FORMS, MOST_PERIOD, MOST_SIZE, check_count
from surelet.errors import InvalidBorders, InvalidNumber, InvalidRest
from surelet.words import is_number


class Rest:
    """The base class of all rests; only its subclasses have objects."""

    def __init__(self, text, forms, period, bend):
        self._text = text
        self._forms = forms
        self._period = period
        self._bend = bend

    def __call__(self, t):
        """The moment at which a chip that was used at t has rested."""
        raise NotImplementedError("each form of a rest says this itself")

    def latest(self, f):
        """The greatest moment whose chips have rested at f, None if there is none."""
        if self(0) > f:
            return None
        # A rest never falls, so halving finds the moment; and it is above its moment, so f is too late.
        low = 0
        high = f
        while high - low > 1:
            middle = (low + high) // 2
            if self(middle) <= f:
                low = middle
            else:
                high = middle
        return low

    def steps(self, t, end):
        """The moments t, rest(t), rest(rest(t)) and so on that are below end."""
        while t < end:
            yield t
            t = self(t)

    def forms(self):
        """How many forms the rest has, with those within it."""
        return self._forms

    def period(self):
        """The period with which the rest repeats itself from its bend on."""
        return self._period

    def bend(self):
        """The greatest told border, 0 if none is told."""
        return self._bend

    def written(self):
        """The text of the rest."""
        return self._text

    def __str__(self):
        return f"{self._text}"

    def __repr__(self):
        return f"Rest({self._text})"

    def __eq__(self, other):
        return isinstance(other, Rest) and self._text == other._text


class Window(Rest):
    """A rest of the same width at each moment."""

    def __init__(self, width):
        if not is_number(width, 1, MOST_SIZE):
            raise InvalidNumber(width)
        super().__init__(f"window {width}", 1, 1, 0)
        self.width = width

    def __call__(self, t):
        return t + self.width


class Days(Rest):
    """A rest until the next border."""

    def __init__(self, borders, every):
        check_borders(borders)
        if not is_number(every, 1, MOST_PERIOD):
            raise InvalidNumber(every)
        self._borders = list(borders)
        self.every = every
        words = ["days"] + [str(border) for border in borders] + ["then", str(every)]
        super().__init__(" ".join(words), 1, every, max([0] + self._borders))

    def __call__(self, t):
        for border in self._borders:
            if border > t:
                return border
        last = self.bend()
        return last + ((t - last) // self.every + 1) * self.every

    def borders(self):
        """The told borders."""
        return list(self._borders)


class Later(Rest):
    """The later one of two rests."""

    def __init__(self, first, second):
        facts = pair_facts("later", first, second)
        super().__init__(*facts)
        self.first = first
        self.second = second

    def __call__(self, t):
        return max(self.first(t), self.second(t))


class Sooner(Rest):
    """The sooner one of two rests."""

    def __init__(self, first, second):
        facts = pair_facts("sooner", first, second)
        super().__init__(*facts)
        self.first = first
        self.second = second

    def __call__(self, t):
        return min(self.first(t), self.second(t))


class Next(Rest):
    """One rest behind another one."""

    def __init__(self, first, second):
        facts = pair_facts("next", first, second)
        super().__init__(*facts)
        self.first = first
        self.second = second

    def __call__(self, t):
        return self.second(self.first(t))


def check_borders(borders):
    """Raises the error of borders that are not as Days takes them."""
    if not isinstance(borders, (list, tuple)):
        raise InvalidBorders(-1)
    check_count("borders", len(borders), MOST_BORDERS)
    least = 1
    for at, border in enumerate(borders):
        if not is_number(border, least, MOST_SIZE):
            raise InvalidBorders(at)
        least = border + 1


def pair_facts(word, first, second):
    """The text, forms, period and bend of two rests that are joined by a word."""
    for value in (first, second):
        if not isinstance(value, Rest):
            raise InvalidRest(value)
    text = f"{word}({first.written()}, {second.written()})"
    forms = 1 + first.forms() + second.forms()
    check_count("forms", forms, MOST_FORMS)
    return text, forms, common_period(first, second), max(first.bend(), second.bend())


def common_period(rest, other):
    """The least common multiple of the periods of two rests."""
    period = lcm(rest.period(), other.period())
    check_count("period", period, MOST_PERIOD)
    return period


def telling_moments(rest, other):
    """How many moments, from 0 on, tell all that two rests do to one another."""
    return common_period(rest, other) + max(rest.bend(), other.bend())


def parted(rest, other):
    """The least moment at which two rests differ, or None."""
    for moment in range(telling_moments(rest, other)):
        if rest(moment) != other(moment):
            return moment
    return None
