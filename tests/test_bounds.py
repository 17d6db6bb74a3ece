"""The bounds of [3]: each row of the table at its bound, and one beyond."""

import unittest

from netting import EXAMPLE, NAMES
from support import RULE, Case

from surelet.errors import TooMany
from surelet.houses import House
from surelet.nets import Net
from surelet.rests import Days, Later, Next, Window, parted
from surelet.rooms import Room
from surelet.rules import Rule, breach
from surelet.servers import Server
from surelet.timetables import clash, journeys, needed
from surelet.trees import Place, Tree

TREE = Tree(RULE, Place("a", "sa"))


def forms(count):
    """A rest with an odd number of forms."""
    rest = Window(1)
    for _ in range(count // 2):
        rest = Next(rest, Window(1))
    return rest


def places(count):
    return [Place("p0", "sa")] + [Place(f"p{at}", "sa", "p0") for at in range(1, count)]


def rows(count):
    return [(NAMES[at] if at < 12 else f"n{at}", "a" if at else None, 0, 0) for at in range(count)]


def full_room(count):
    """A room in which so many requests wait."""
    room = Room({"ann": 1})
    for _ in range(count):
        room.join("ann", 1)
    return room


def full_server(count):
    """A server with so many waiting requests in its room."""
    house = House(TREE, servers=[("sa", 0)], customers=[("ann", None, 1, ["r"])], rooms=[("hall", "sa")])
    server = Server(house, "sa")
    for _ in range(count):
        server.enter(0, "hall", "ann", 999, until=90)
    return server


def trees(count):
    return [Tree(Rule(f"r{at}", 1, Window(1)), Place("a", "sa")) for at in range(count)]


def house(**more):
    return House(TREE, **{"servers": [("sa", 0)], **more})


# For each row: its word, its bound, and a call that raises the error beyond it.
BOUNDS = [
    ("borders", 12, lambda count: Days(list(range(1, count + 1)), 5)),
    ("places", 24, lambda count: Tree(RULE, *places(count))),
    ("servers", 6, lambda count: House(servers=[(f"s{at}", 0) for at in range(count)])),
    ("rules", 12, lambda count: House(*trees(count), servers=[("sa", 0)])),
    ("customers", 12, lambda count: house(customers=[(f"c{at}", None, 1, []) for at in range(count)])),
    ("rooms", 6, lambda count: house(rooms=[(f"h{at}", "sa") for at in range(count)])),
    ("places", 12, lambda count: Net(*rows(count), rest=Window(1))),
    ("booked", 60, lambda count: needed(EXAMPLE, [("a", 1)] * count)),
    ("booked", 60, lambda count: journeys(EXAMPLE, [("a", 1)] * count)),
    ("booked", 60, lambda count: clash(EXAMPLE, [("a", 1)] * count)),
]


class Bounds(Case):
    def test_each_row(self):
        for what, most, call in BOUNDS:
            call(most)
            for count in (most + 1, most + 2, 2 * most):
                self.check_error(TooMany, [what, count], call, count)

    def test_forms(self):
        self.check_same(forms(5).forms(), 5)
        self.check_error(TooMany, ["forms", 7], Next, forms(5), Window(1))
        self.check_error(TooMany, ["forms", 11], Later, forms(5), forms(5))

    def test_periods(self):
        self.check_same(Later(Days([], 2000), Days([], 16)).period(), 2000)
        self.check_error(TooMany, ["period", 6000], Later, Days([], 2000), Days([], 3))
        for call in (parted, lambda one, other: breach(Rule("r", 1, one), Rule("s", 1, other))):
            self.check_error(TooMany, ["period", 6000], call, Days([], 2000), Days([], 3))
            self.check_error(TooMany, ["period", 2001], call, Days([], 667), Days([], 3))
            call(Days([], 1000), Days([], 16))

    def test_waiting_requests(self):
        self.check_same(len(full_room(40)), 40)
        self.check_error(TooMany, ["waiting", 41], full_room(40).join, "ann", 1)
        self.check_same(len(full_server(40).waiting_in("hall")), 40)
        self.check_error(TooMany, ["waiting", 41], full_server(40).enter, 0, "hall", "ann", 999, until=90)


if __name__ == "__main__":
    unittest.main()
