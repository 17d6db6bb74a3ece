"""Policies: who lends what to whom in a prompt run."""

from surelet.choices import Choices
from surelet.errors import InvalidName, InvalidNumber, InvalidRow
from surelet.lots import end_key
from surelet.timetables import are_indexes, check_demands, is_led
from surelet.words import is_from, is_name


class Share:
    """Lends chips to one child, and prolongs the loan in time."""

    def __init__(self, child, n, span, lead):
        if not is_name(child):
            raise InvalidName(child)
        for value in (n, span, lead):
            if not is_from(value, 1):
                raise InvalidNumber(value)
        self._child = child
        self._n = n
        self._span = span
        self._lead = lead
        # The number of the loan and the end that was asked for last, None ahead of the first time.
        self._number = None
        self._end = None

    def __call__(self, place, reading, purse, come):
        """The deeds for a purse of a place: a lend the first time, and a prolong whenever the end comes near."""
        tree = purse.tree
        if self._child not in tree or tree.place_of(self._child).elder != place:
            return []
        rule = tree.rule.name
        if self._number is None:
            self._number = int(purse.table()[f"{rule} next"])
            self._end = reading + self._span
            return [("lend", reading, rule, place, self._child, self._n, self._end, None)]
        if reading < self._end - self._lead:
            return []
        self._end += self._span
        return [("prolong", reading, rule, self._number, self._end)]


class Stranger:
    """Does anything, by choices of its own."""

    def __init__(self, numbers):
        self._choices = Choices(numbers)

    def __call__(self, place, reading, purse, come):
        """The deeds for a purse of a place: one at most, as the numbers choose."""
        what = self._choices.choose(4)
        if what == 1:
            return self.lending(place, reading, purse.tree)
        if what == 2:
            return self.giving(place, reading, purse)
        return self.prolonging(reading, purse) if what == 3 else []

    def lending(self, place, reading, tree):
        """A deed that lends to a child, if there is one."""
        children = tree.children(place)
        if len(children) == 0:
            return []
        child = children[self._choices.choose(len(children))]
        n = 1 + self._choices.choose(3)
        until = reading + 1 + self._choices.choose(40)
        return [("lend", reading, tree.rule.name, place, child, n, until, None)]

    def giving(self, place, reading, purse):
        """A deed that gives back ready chips, if there are any and the place has an elder."""
        rows = [row for row in purse.lots(place) if row[3] > 0]
        if purse.tree.place_of(place).elder is None or len(rows) == 0:
            return []
        row = rows[self._choices.choose(len(rows))]
        n = 1 + self._choices.choose(row[3])
        return [("give", reading, purse.tree.rule.name, place, row[0], ((0, n),))]

    def prolonging(self, reading, purse):
        """A deed that prolongs a loan, if there is one."""
        loans = loans_of(purse)
        if len(loans) == 0:
            return []
        loan = loans[self._choices.choose(len(loans))]
        until = loan[3] + 1 + self._choices.choose(20)
        return [("prolong", reading, purse.tree.rule.name, loan[0], until)]


class Steward:
    """Leads one chip through a journey."""

    def __init__(self, net, demands, journey):
        check_demands(net, demands)
        if not are_indexes(demands, journey) or not is_led(net, demands, journey):
            raise InvalidRow(-1)
        self._net = net
        # The demands of the journey, as triples of their index, their place and the latest moment at which they come.
        self._stops = []
        for index in journey:
            place, reading = demands[index]
            self._stops.append((index, place, reading + net.error_of(place)))
        self._low = 0

    def __call__(self, place, reading, purse, come):
        """The deeds for a purse of a place: a lend or a give that brings its chip nearer to the leg."""
        self._low = max(self._low, purse.past)
        rows = [row for row in purse.lots(place) if row[3] > 0]
        left = self.stops_left(come)
        if len(rows) == 0 or len(left) == 0 or left[0][1] == place:
            return []
        rule = purse.tree.rule.name
        step = self._net.way(place, left[0][1])[1]
        if self._net.elder_of(step) == place:
            return [("lend", reading, rule, place, step, 1, self.end_at(place, left), None)]
        latest = max([end_key(row[1]) for row in rows])
        lot = min([row[0] for row in rows if end_key(row[1]) == latest])
        return [("give", reading, rule, place, lot, ((0, 1),))]

    def stops_left(self, come):
        """The stops from the leg on, none if there is no leg."""
        for at, (index, _, latest) in enumerate(self._stops):
            if index not in come and latest >= self._low:
                return self._stops[at:]
        return []

    def end_at(self, place, left):
        """Until when a chip is lent from a place: behind the last demand ahead of which it need not be there again."""
        above = self._net.ups(place)
        for (_, stop, latest), (_, after, _) in zip(left, left[1:]):
            if self._net.kappa_place(stop, after) in above:
                return latest + 1
        return left[-1][2] + 1


def loans_of(purse):
    """The loans of a purse to other servers, by numbers."""
    found = []
    for place in purse.tree.places():
        if place.server == purse.server:
            found = found + [loan for row in purse.lots(place.name) for loan in row[5] if loan[3] is not None]
    return sorted(found, key=lambda loan: loan[0])
