"""Random houses, and random events for worlds that run them."""

import random

from support import facts
from twins import told

from surelet.houses import House
from surelet.rests import Days, Later, Next, Sooner, Window
from surelet.rules import Rule
from surelet.trees import Place, Tree
from surelet.worlds import World

RESTS = [Window(10), Days([3, 7, 20], 5), Next(Window(4), Days([], 6)), Later(Window(2), Days([9], 8)),
         Sooner(Window(12), Days([], 15)), Window(3), Days([], 1)]
CUT_WORDS = ("kept", "kept", "lost", "torn")
CUSTOMERS = [("firm", None, 2, ["p"]), ("ann", "firm", 3, ["q"]), ("bob", None, 1, ["q"]), ("cid", None, 4, []),
             ("dan", "bob", 1, ["r", "p"])]
# How the clocks of a run go: to and fro, all slow, all fast, or from one end of the error to the other one.
CLOCKS = ("any", "slow", "fast", "ends")


def long_places():
    """A chain with drawers and memory, which goes over three servers; a fourth one stands beside it."""
    return [
        Place("a", "sa"), Place("a2", "sa", "a"), Place("a3", "sa", "a2", customer="ann"),
        Place("m", "sa", "a2", memory=True), Place("b", "sb", "a3"), Place("b2", "sb", "b"),
        Place("b3", "sb", "b2", customer="bob"), Place("n", "sb", "b2", memory=True, customer="firm"),
        Place("c", "sc", "b3"), Place("c2", "sc", "c"), Place("d", "sd", "a"), Place("d2", "sd", "d", memory=True),
    ]


def wide_house(chance, most=8):
    """A house of three rules over four servers, with rooms."""
    def rule(name):
        return Rule(name, chance.randint(1, most), chance.choice(RESTS))
    p = Tree(rule("p"), *long_places())
    q = Tree(rule("q"), Place("b", "sb"), Place("c", "sb", "b"), Place("e", "sb", "c"), Place("a", "sa", "e"),
             Place("d", "sd", "a"), Place("k", "sa", "a"), Place("g", "sc", "k"))
    r = Tree(rule("r"), Place("x", "sd"), Place("y", "sd", "x", memory=True))
    servers = [(name, chance.choice([0, 0, 1, 2, 3, 5])) for name in ("sa", "sb", "sc", "sd")]
    return House(p, q, r, servers=servers, customers=CUSTOMERS,
                 rooms=[("desk", "sb"), ("attic", "sb"), ("hall", "sa"), ("cell", "sd")])


def lone_house(chance, most=8):
    """A house of one rule over the same servers."""
    tree = Tree(Rule("p", chance.randint(1, most), chance.choice(RESTS)), *long_places())
    servers = [(name, chance.choice([0, 1, 2, 4])) for name in ("sa", "sb", "sc", "sd")]
    customers = [("firm", None, 2, ["p"]), ("ann", "firm", 3, []), ("bob", None, 1, ["p"]), ("cid", None, 4, [])]
    return House(tree, servers=servers, customers=customers, rooms=[("desk", "sb"), ("hall", "sa")])


def receiver(house, letter):
    """The server that receives a letter."""
    tree = house.tree_of(letter[1])
    place = tree.place_of(letter[2])
    return tree.place_of(place.elder).server if letter[0] == "back" else place.server


def some_cut(chance):
    return [chance.choice(CUT_WORDS) for _ in range(chance.randint(0, 9))]


class Runner:
    """A world, and random events for it that mostly make sense."""

    def __init__(self, house, seed, clocks="any", falls=0.03, rows=16):
        self.house, self.clocks, self.falls = house, clocks, falls
        self.chance = random.Random(seed)
        self.world = World(house, rows=rows)
        self.moment = 0

    def reading(self, server):
        error = self.house.error_of(server)
        if self.clocks == "slow":
            return self.moment - error
        if self.clocks == "fast":
            return self.moment + error
        if self.clocks == "ends":
            return self.moment + self.chance.choice([-error, error])
        return self.moment + self.chance.randint(-error, error)

    def event(self):
        """The next event."""
        chance = self.chance
        self.moment += chance.choice([0, 0, 0, 0, 0, 1, 1, chance.randint(0, 7)])
        name = chance.choice(self.house.servers())
        server = self.world.server_of(name)
        reading = self.reading(name)
        if server.fallen:
            return ("wake", self.moment, name, reading)
        what = chance.random()
        if what < self.falls:
            return ("fall", self.moment, name, chance.choice([some_cut(chance), tuple(some_cut(chance))]))
        deed = self.deed(name, server, reading)
        if what < 2 * self.falls:
            return ("crash", self.moment, name, deed, some_cut(chance))
        letters = self.world.letters()
        if letters and what < 2 * self.falls + 0.02:
            return ("lose", chance.randrange(len(letters)))
        return ("deed", self.moment, name, deed)

    def deed(self, name, server, reading):
        """A deed that may make sense for a server."""
        chance, house = self.chance, self.house
        mine = [at for at, letter in enumerate(self.world.letters()) if letter and receiver(house, letter) == name]
        words = ["tick", "request", "request", "enter", "use", "use", "use", "lend", "lend", "lend"]
        word = chance.choice(words + ["prolong", "give", "give", "recall"] + ["carry"] * min(len(mine), 6))
        if word == "carry":
            return (word, reading, chance.choice(mine[-6:] + [chance.choice(mine)]))
        if word == "request":
            return (word, reading, chance.choice(house.customers()), chance.choice([1, 1, 1, 2, 3]))
        if word == "enter" and house.rooms(name):
            until = chance.choice([None, reading + chance.randint(0, 30)])
            return (word, reading, chance.choice(house.rooms(name)), chance.choice(house.customers()),
                    chance.choice([1, 1, 2]), until)
        found = self.lot_for(word, name, server)
        if found is None:
            return ("tick", reading)
        rule, place, lot = found
        return self.of_lot(word, reading, rule, place, lot, house.error_of(name))

    def lot_for(self, word, name, server):
        """A rule, a place and a lot with which a deed of this word can do something, None if there is none."""
        found = []
        for rule in self.house.rules():
            tree = self.house.tree_of(rule)
            for place in tree.places():
                if place.server == name:
                    near = place.elder is not None and tree.place_of(place.elder).server == name
                    for lot in server.purse(rule).lots(place.name):
                        useful = {"use": lot[3] > 0, "lend": lot[3] > 0 and tree.children(place.name),
                                  "prolong": any(loan[3] for loan in lot[5]), "give": place.elder is not None,
                                  "recall": near}.get(word, False)
                        if useful:
                            found.append((rule, place.name, lot))
        return self.chance.choice(found) if found else None

    def of_lot(self, word, reading, rule, place, lot, error):
        chance, tree = self.chance, self.house.tree_of(rule)
        if word == "use":
            return (word, reading, rule, place, chance.randint(1, lot[3] + 1), chance.choice([None, lot[0]]))
        if word == "lend":
            child = chance.choice(tree.children(place))
            near = tree.place_of(child).server == tree.place_of(place).server
            ends = [reading + error + chance.randint(1, 40), reading - error + chance.randint(1, 9), 300]
            until = chance.choice([None, None, ends[0]]) if near else chance.choice(ends)
            if not near and lot[1] is not None:
                until = chance.choice([lot[1], min(until, lot[1]), until])
            return (word, reading, rule, place, child, chance.randint(1, lot[3]), until, chance.choice([None, lot[0]]))
        if word == "prolong":
            loan = chance.choice([loan for loan in lot[5] if loan[3]])
            return (word, reading, rule, loan[0], loan[3] + chance.randint(1, 30))
        if word == "give":
            held = [(0, lot[3])] * (lot[3] > 0) + list(lot[4])
            parts = [(f, chance.randint(1, n)) for f, n in held if chance.random() < 0.8]
            return (word, reading, rule, place, lot[0], chance.choice([parts, tuple(parts)]))
        return (word, reading, rule, place, lot[0])

    def step(self):
        """Does the next event; returns it, and what it returned or what error it raised."""
        event = self.event()
        return event, told(self.world.do, event)


def counted(event, got):
    """What an event let by, by what it returned, as triples (rule, moment, n)."""
    if event[0] != "deed" or got[0] != "returned":
        return []
    moment, deed, answer = event[1], event[3], got[1]
    if deed[0] == "use":
        return [(deed[2], moment, deed[4])]
    answers = [row[2] for row in answer] if deed[0] == "tick" else [answer]
    found = []
    for one in answers if deed[0] in ("tick", "request", "enter") else []:
        if one.word == "yes":
            for rule in sorted({row[0] for row in one.paid}):
                found.append((rule, moment, sum(row[3] for row in one.paid if row[0] == rule)))
    return found


def shown(house, server):
    """All that a server of a house tells."""
    disk = server.disk()
    found = [server.name, server.fallen, server.syncs, disk.table(), disk.areas(), disk.unsynced(), disk.syncs]
    for rule in house.rules():
        found.append(told(server.book, rule))
        if not server.fallen and server.name in house.tree_of(rule).servers():
            found += facts(server.purse(rule))
    for room in [] if server.fallen else house.rooms(server.name):
        found += [server.waiting_in(room), server.head_of(room)]
        found += [server.mark_in(room, customer) for customer in house.customers()]
    return found


def all_of(world):
    """All that a world tells."""
    house = world.house
    found = [world.now, world.letters(), world.events(), world.over()]
    for rule in house.rules():
        found += [world.uses(rule), world.fullest(rule)]
    for name in house.servers():
        found += shown(house, world.server_of(name))
    return found
