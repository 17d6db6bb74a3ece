"""Trees of places, along which the servers lend chips of one rule."""

from surelet.bounds import MOST_PLACES, check_count
from surelet.errors import BadTree, InvalidName, InvalidPlace, InvalidRule
from surelet.rules import Rule
from surelet.words import has_name, is_name, look_up


class Place:
    """A place of a tree, on one server, and perhaps for one customer alone."""

    def __init__(self, name, server, elder=None, *, memory=False, customer=None):
        for value in (name, server):
            if not is_name(value):
                raise InvalidName(value)
        for value in (elder, customer):
            if value is not None and not is_name(value):
                raise InvalidName(value)
        self.name = name
        self.server = server
        self.elder = elder
        self.memory = memory
        self.customer = customer

    def __eq__(self, other):
        return (isinstance(other, Place) and self.name == other.name and self.server == other.server
                and self.elder == other.elder and self.memory == other.memory and self.customer == other.customer)


class Tree:
    """The places of one rule, told elder first."""

    def __init__(self, rule, *places):
        if not isinstance(rule, Rule):
            raise InvalidRule(rule)
        for at, place in enumerate(places):
            if not isinstance(place, Place):
                raise InvalidPlace(at)
        if len(places) == 0:
            raise BadTree(None)
        check_count("places", len(places), MOST_PLACES)
        self.rule = rule
        self._places = places_by_name(places)
        self._children = {place.name: [] for place in places}
        self._tops = {}
        for place in places:
            if place.elder is not None:
                self._children[place.elder].append(place.name)
            # The first place of a server that is told is its top, since the others hang beneath it.
            self._tops.setdefault(place.server, place.name)

    def places(self):
        """The places, in order."""
        return list(self._places.values())

    def place_of(self, name):
        """The place with this name."""
        return look_up(self._places, name)

    def children(self, name):
        """The names of the children of a place, in order."""
        return list(look_up(self._children, name))

    def way_up(self, name):
        """The names of the place, its elder and so on, as far as the first place."""
        place = self.place_of(name)
        while place.elder is not None:
            yield place.name
            place = self._places[place.elder]
        yield place.name

    def is_above(self, name, other):
        """Whether the place name stands above the place other."""
        self.place_of(name)
        way = list(self.way_up(other))
        return name in way[1:]

    def servers(self):
        """The servers, in the order in which they first occur."""
        return list(self._tops)

    def top(self, server):
        """The name of the top of a server."""
        return look_up(self._tops, server)

    def __contains__(self, name):
        return has_name(self._places, name)

    def __len__(self):
        return len(self._places)

    def __eq__(self, other):
        return isinstance(other, Tree) and self.rule == other.rule and self.places() == other.places()


def places_by_name(places):
    """A dict from the names to the places; raises BadTree with the first place that cannot stand there."""
    ahead = {}
    for place in places:
        if is_misplaced(place, ahead):
            raise BadTree(place.name)
        ahead[place.name] = place
    return ahead


def is_misplaced(place, ahead):
    """Whether a place cannot stand behind the places ahead of it, a dict from their names to them."""
    if len(ahead) == 0:
        return place.elder is not None or place.memory or place.customer is not None
    if place.name in ahead or place.elder not in ahead:
        return True
    elder = ahead[place.elder]
    if elder.memory:
        return True
    if elder.server == place.server:
        return False
    # A server has one top alone, and a place in memory is none.
    return place.memory or any([other.server == place.server for other in ahead.values()])
