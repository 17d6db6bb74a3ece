"""Random runs of servers beside servers that do all step by step."""

import random
import unittest

from slow import Slow
from support import Case, facts
from twins import told

from surelet.deeds import perform
from surelet.houses import House
from surelet.purses import Purse
from surelet.rests import Days, Window
from surelet.rules import Rule, is_within
from surelet.servers import Server
from surelet.trees import Place, Tree

WORDS = ("kept", "kept", "lost", "torn")
def house_of(p, q, r):
    """The house of these tests, with these chips of its rules."""
    return House(
        Tree(Rule("r", r, Window(6)), Place("a", "sa")),
        Tree(Rule("p", p, Window(10)), Place("a", "sa"), Place("m", "sa", "a", memory=True), Place("b", "sb", "a"),
             Place("d", "sb", "b", customer="ann"), Place("n", "sb", "b", memory=True, customer="firm")),
        Tree(Rule("q", q, Days([4, 9], 7)), Place("b", "sb"), Place("c", "sb", "b", customer="bob"),
             Place("m", "sb", "c", memory=True, customer="bob"), Place("a", "sa", "c")),
        servers=[("sa", 1), ("sb", 2)],
        customers=[("firm", None, 2, ["p"]), ("ann", "firm", 3, ["q"]), ("bob", None, 1, ["q"]), ("cid", None, 4, []),
                   ("dan", "bob", 1, ["r", "p"]), ("eve", "firm", 2, [])],
        rooms=[("desk", "sb"), ("attic", "sb"), ("hall", "sa")],
    )


HOUSE = house_of(16, 12, 6)
SMALL = house_of(2, 2, 1)


def server_facts(server):
    """All that a server tells."""
    disk = server.disk()
    found = [server.name, server.fallen, server.syncs, disk.table(), disk.areas(), disk.unsynced(), disk.syncs]
    for rule in HOUSE.rules():
        found += [told(lambda rule=rule: facts(server.purse(rule))), told(server.book, rule)]
    for room in HOUSE.rooms(server.name):
        found += [told(server.waiting_in, room), told(server.head_of, room)]
        found += [told(server.mark_in, room, customer) for customer in HOUSE.customers()]
    return found


def slow_facts(slow, ever):
    """The same of a slow server."""
    fallen = slow.disk.fallen
    table, areas, loose, syncs, _ = slow.disk.shown()
    found = [slow.name, fallen, syncs, table, areas, loose, syncs]
    down = ("Fallen", slow.name)
    for rule in HOUSE.rules():
        known = rule in slow.trees
        found.append(down if fallen else ("returned", facts(slow.purses[rule])) if known else ("UnknownName", rule))
        found.append(down if ever else ("returned", slow.books[rule] if known else []))
    for room in HOUSE.rooms(slow.name):
        head = slow.head(room)
        found.append(down if fallen else ("returned", [request.row() for request in slow.in_room(room)]))
        found.append(down if fallen else ("returned", head and head.row()))
        found += [down if fallen else ("returned", slow.marks[room, who]) for who in HOUSE.customers()]
    return found


class Runs(Case):
    def setUp(self):
        self.seen = {}

    def deed(self, chance, slow, moment, letters):
        """A deed that may make sense for a server."""
        reading = moment + chance.randint(-slow.error, slow.error)
        if chance.random() < 0.03:
            reading -= chance.randint(0, 12)
        word = chance.choice(["tick", "tick", "request", "request", "enter", "enter", "enter", "use", "lend", "lend",
                              "lend", "prolong", "give", "recall", "receive", "receive", "receive"])
        rule = chance.choice(list(slow.trees) * 3 + ["p", "q", "zz"])
        known = rule in slow.purses
        place, number = self.lot_of(chance, slow, rule, word)
        until = chance.choice([None, reading + chance.randint(0, 30), reading + chance.randint(5, 60)])
        who = chance.choice(slow.house.customers())
        if word == "tick":
            return (word, reading)
        if word == "request":
            return (word, reading, who, chance.choice([1, 1, 2, 3, 0]))
        if word == "enter":
            room = chance.choice(slow.house.rooms(slow.name) + ["desk", "attic"])
            return (word, reading, room, who, chance.choice([1, 1, 2, 4, 7]), until)
        if word == "use":
            return (word, reading, rule, place, chance.choice([1, 1, 2]), chance.choice([None, number]))
        if word == "lend":
            children = slow.house.tree_of(rule).children(place) if known and place in slow.house.tree_of(rule) else []
            child = chance.choice(children or ["zz"])
            return (word, reading, rule, place, child, chance.choice([1, 2, 3]), until, chance.choice([None, number]))
        if word == "prolong":
            loans = [(one, loan[0]) for one in slow.trees for row in self.rows(slow, one) for loan in row[5] if loan[3]]
            rule, number = chance.choice(loans or [(rule, 1)])
            return (word, reading, rule, number, reading + chance.randint(5, 60))
        if word == "recall":
            return (word, reading, rule, place, number)
        if word == "receive":
            mine = [letter for letter in letters if self.is_for(slow, letter)]
            return (word, reading, chance.choice(mine or letters or [("lend", "p", "b", 1, 2, 90)]))
        here = known and place in [one.name for one in slow.trees[rule].places() if one.server == slow.name]
        lot = [lot for lot in slow.purses[rule].lots(place) if lot[0] == number] if here else []
        parts = ([(0, lot[0][3])] * (lot[0][3] > 0) + list(lot[0][4])) if lot else [(0, 1)]
        return ("give", reading, rule, place, number, chance.choice([parts[:1], tuple(parts)]))

    def lot_of(self, chance, slow, rule, word):
        """A place and the number of a lot of it, mostly one with which a deed of this word can do something."""
        found = []
        for place in slow.trees[rule].places() if rule in slow.trees else []:
            if place.server == slow.name:
                rows = [(place.name, lot[0]) for lot in slow.purses[rule].lots(place.name)]
                near = place.elder and slow.trees[rule].place_of(place.elder).server == slow.name
                if (word == "recall" and not near) or (word == "give" and not place.elder):
                    rows = rows if chance.random() < 0.1 else []
                if word == "lend" and not slow.trees[rule].children(place.name):
                    rows = rows if chance.random() < 0.1 else []
                found += rows or [(place.name, chance.randint(0, 3))] * (chance.random() < 0.1)
        return chance.choice(found or [("a", 0), ("b", 1)])

    def rows(self, slow, rule):
        """All lots of a rule."""
        if rule not in slow.purses:
            return []
        places = [place.name for place in slow.house.tree_of(rule).places() if place.server == slow.name]
        return [lot for place in places for lot in slow.purses[rule].lots(place)]

    def is_for(self, slow, letter):
        """Whether a letter is one for a server."""
        place = slow.house.tree_of(letter[1]).place_of(letter[2])
        return (place.server == slow.name) == (letter[0] != "back")

    def both(self, server, slow, word, *args):
        """Does the same on both; returns what the slow server is now, and what was told."""
        tried = slow.copy()
        wanted = told(getattr(tried, word), *args)
        got = told(getattr(server, word), *args)
        self.check_same(got, wanted)
        key = (args[0][0] if word in ("do", "crash") else word, wanted[0])
        self.seen[key] = self.seen.get(key, 0) + 1
        return (tried if wanted[0] == "returned" else slow), wanted

    def check_when(self, server, slow, moment):
        """Asks when for each room, against all readings one by one."""
        for room in HOUSE.rooms(slow.name):
            reading = moment + slow.error
            ahead = server_facts(server)
            got = server.when(reading, room)
            self.check_same(server_facts(server), ahead)
            self.check_same(got, slow.when(reading, room, reading + 45 if got is None else got))

    def step(self, chance, pair, moment, letters):
        """One event on a server."""
        server, slow, ever = pair
        if slow.disk.fallen:
            slow, _ = self.both(server, slow, "wake", moment + chance.randint(-9, slow.error))
            return server, slow, ever
        what = chance.random()
        cut = [chance.choice(WORDS) for _ in range(chance.randint(0, len(slow.disk.loose) + 3))]
        deed = self.deed(chance, slow, moment, letters)
        if what < 0.02:
            slow, _ = self.both(server, slow, "fall", cut)
            return server, slow, True
        if what < 0.06:
            slow, wanted = self.both(server, slow, "crash", deed, cut)
            return server, slow, ever or wanted[0] == "returned"
        slow, wanted = self.both(server, slow, "do", deed)
        if wanted[0] == "returned":
            letter = wanted[1][1] if deed[0] == "lend" else wanted[1]
            if deed[0] in ("lend", "prolong", "give") and letter is not None:
                letters.append(letter)
        return server, slow, ever

    def test_runs(self):
        for seed in range(24):
            chance = random.Random(seed)
            rows = chance.choice([1, 3, 16, 64])
            pairs = {name: (Server(HOUSE, name, rows=rows), Slow(HOUSE, name, rows), False) for name in ("sa", "sb")}
            letters, moment = [], 0
            for _ in range(110):
                moment += chance.choice([0, 0, 0, 1, 1, 2, 5])
                name = chance.choice(["sa", "sb", "sb"])
                pairs[name] = self.step(chance, pairs[name], moment, letters)
                server, slow, ever = pairs[name]
                self.check_same(server_facts(server), slow_facts(slow, ever))
                if not slow.disk.fallen and chance.random() < 0.1:
                    self.check_when(server, slow, moment)
                if chance.random() < 0.05:
                    pairs[name] = (server.copy(), slow, ever)
            self.check_books(pairs)
        for word in ("tick", "request", "enter", "use", "lend", "prolong", "give", "recall", "receive", "wake", "fall"):
            self.assertGreater(self.seen.get((word, "returned"), 0), 5, word)

    def test_never_over(self):
        """Whatever is lent, lost and crashed, no stretch of a rule has more uses than the rule has chips."""
        total = 0
        for seed in range(60):
            chance = random.Random(seed)
            pairs = [(Server(SMALL, name, rows=3), Slow(SMALL, name, 3)) for name in ("sa", "sb")]
            uses, letters, moment = {rule: [] for rule in SMALL.rules()}, [], 0
            for _ in range(150):
                moment += chance.choice([0, 0, 0, 1, 1, 2])
                server, slow = chance.choice(pairs)
                if server.fallen:
                    server.wake(moment + chance.randint(-slow.error, slow.error))
                    continue
                slow.purses = {rule: server.purse(rule) for rule in slow.trees}
                deed = self.deed(chance, slow, moment, letters)
                if abs(deed[1] - moment) > slow.error or (deed[0] == "receive" and deed[2] not in letters):
                    continue
                if chance.random() < 0.06:
                    told(server.crash, deed, [chance.choice(WORDS) for _ in range(chance.randint(0, 9))])
                else:
                    self.count(uses, letters, moment, deed, told(server.do, deed))
            for rule in SMALL.rules():
                self.assertTrue(is_within(SMALL.tree_of(rule).rule, uses[rule]), (seed, rule))
                total += sum(n for _, n in uses[rule])
        self.assertGreater(total, 300)

    def count(self, uses, letters, moment, deed, got):
        """Keeps the uses and the letter of what was told."""
        if got[0] != "returned":
            return
        if deed[0] == "use":
            uses[deed[2]].append((moment, deed[4]))
        rows = [row[2] for row in got[1]] if deed[0] == "tick" else [got[1]] if deed[0] in ("request", "enter") else []
        for rule, _, _, n in [row for answer in rows if answer.word == "yes" for row in answer.paid]:
            uses[rule].append((moment, n))
        letter = got[1][1] if deed[0] == "lend" else got[1]
        if deed[0] in ("lend", "prolong", "give") and letter is not None:
            letters.append(letter)

    def check_books(self, pairs):
        """A new purse that does the deeds of a book stands where the purse of the server does."""
        for server, slow, ever in pairs.values():
            for rule in [] if ever else slow.trees:
                purse = Purse(slow.trees[rule], slow.name, slow.error)
                for deed in server.book(rule):
                    perform(purse, deed)
                self.check_same(facts(purse), facts(server.purse(rule)))


if __name__ == "__main__":
    unittest.main()
