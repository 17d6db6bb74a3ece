"""Nets: trees of places that stand far apart, each on a server of its own."""

from surelet.bounds import MOST_ERROR, MOST_NET_PLACES, check_count
from surelet.errors import InvalidRest, InvalidRow
from surelet.rests import Rest
from surelet.rules import Rule
from surelet.trees import Place, Tree
from surelet.words import has_name, is_name, is_number, look_up


class Net:
    """Places with the errors of their clocks, and with the delays of the letters between them."""

    def __init__(self, *rows, rest):
        if not isinstance(rest, Rest):
            raise InvalidRest(rest)
        self.rest = rest
        self._rows = rows_by_name(rows)
        self._dists = {}
        for name in self._rows:
            for other in self._rows:
                self._dists[name, other] = self.delays_between(name, other)
        self._kappas = {}
        for name in self._rows:
            for other in self._rows:
                self._kappas[name, other] = self.least_kappa(name, other)

    def names(self):
        """The names of the places, in order."""
        return list(self._rows)

    def elder_of(self, name):
        """The name of the elder of a place, None for the first one."""
        return look_up(self._rows, name)[1]

    def error_of(self, name):
        """The error of the clock of a place."""
        return look_up(self._rows, name)[2]

    def delay_of(self, name):
        """The delay of the edge from a place to its elder."""
        return look_up(self._rows, name)[3]

    def ups(self, name):
        """The names of a place, its elder and so on."""
        names = [name]
        elder = self.elder_of(name)
        while elder is not None:
            names.append(elder)
            elder = self.elder_of(elder)
        return names

    def way(self, name, other):
        """The names from one place to another one, both with it."""
        up = self.ups(name)
        down = self.ups(other)[::-1]
        # The way turns at the last place that both have above them.
        while len(up) > 1 and up[-2] in down:
            up = up[:-1]
        return up + down[down.index(up[-1]) + 1:]

    def dist(self, name, other):
        """The sum of the delays of the way between two places."""
        return self._dists[self.pair(name, other)]

    def kappa(self, name, other):
        """How much must lie between a use at one place and one at another place, besides the rest and their errors."""
        return self._kappas[self.pair(name, other)][0]

    def kappa_place(self, name, other):
        """The place that has kappa, the nearest one."""
        return self._kappas[self.pair(name, other)][1]

    def pair(self, name, other):
        """Two names of places, as a key."""
        look_up(self._rows, name)
        look_up(self._rows, other)
        return name, other

    def delays_between(self, name, other):
        """The sum of the delays of the edges between two places."""
        way = self.way(name, other)
        # An edge belongs to the one of its places whose elder is the other one.
        return sum([self.delay_of(place) for place in way if self.elder_of(place) in way])

    def least_kappa(self, name, other):
        """Kappa and its place."""
        best = None
        for place in self.ups(name):
            number = -1 if place == other else 2 * self.error_of(place) + self._dists[place, other]
            if best is None or number < best[0]:
                best = (number, place)
        return best

    def tree_of(self, chips):
        """The tree of these places, with this number of chips."""
        places = [Place(name, name, elder) for name, elder, _, _ in self._rows.values()]
        return Tree(Rule("net", chips, self.rest), *places)

    def errors(self):
        """A dict from the places to the errors of their clocks, in order."""
        return {name: row[2] for name, row in self._rows.items()}


def rows_by_name(rows):
    """A dict from the names of the places to their rows."""
    if len(rows) == 0:
        raise InvalidRow(-1)
    check_count("places", len(rows), MOST_NET_PLACES)
    found = {}
    for at, row in enumerate(rows):
        if not is_row(row, found):
            raise InvalidRow(at)
        found[row[0]] = row
    return found


def is_row(value, ahead):
    """Whether any value tells a place behind those ahead."""
    if not isinstance(value, tuple) or len(value) != 4:
        return False
    name, elder, error, delay = value
    if not is_name(name) or name in ahead or not is_number(error, 0, MOST_ERROR):
        return False
    if len(ahead) == 0:
        return elder is None and is_number(delay, 0, 0)
    return has_name(ahead, elder) and is_number(delay, 0, MOST_ERROR)
