"""Servers: their rooms, when, and their books."""

import unittest

from serving import HOUSE, ServerCase, lent, shown
from support import facts

from surelet.answers import Behind, No, Waits, Yes
from surelet.deeds import perform
from surelet.errors import BadReading, Elsewhere, TooMany, UnknownName
from surelet.houses import House
from surelet.purses import Purse
from surelet.rests import Window
from surelet.rules import Rule
from surelet.servers import Server
from surelet.trees import Place, Tree


def paid(n, lot=4):
    """The answer to a request of the firm that is paid at b."""
    return Yes((("p", "b", lot, n),))


class Entering(ServerCase):
    def test_yes(self):
        server = lent()
        self.check_same(server.enter(1, "desk", "firm", 3), paid(3))
        self.check_same([server.mark_in("desk", "firm"), server.waiting_in("desk")], [18, []])
        self.check_same(server.enter(1, "desk", "firm", 3, until=1), paid(3))
        self.check_same([server.mark_in("desk", "firm"), server.mark_in("attic", "firm")], [36, 0])
        # The level is 18 by now, so the mark of ann begins there.
        self.check_same(server.enter(1, "desk", "ann", 1).word, "yes")
        self.check_same(server.mark_in("desk", "ann"), 22)

    def test_no(self):
        server = lent()
        self.check_same(server.enter(1, "desk", "firm", 21), No("p", 20, 21))
        self.check_same([server.waiting_in("desk"), server.mark_in("desk", "firm")], [[], 0])
        self.check_same(server.purse("p").last_reading, 1)

    def test_waits(self):
        server = lent()
        self.check_same(server.enter(1, "desk", "firm", 21, until=1), Waits("desk"))
        self.check_same(server.enter(1, "desk", "cid", 1, until=9), Waits("desk"))
        self.check_same(server.enter(1, "desk", "firm", 1, until=5), Waits("desk"))
        self.check_same(server.waiting_in("desk"), [("firm", 21, 1), ("cid", 1, 9), ("firm", 1, 5)])
        self.check_same([server.head_of("desk"), server.purse("p").ready_chips], [("cid", 1, 9), 20])

    def test_behind(self):
        server = lent()
        server.enter(1, "desk", "firm", 21, until=5)
        self.check_same(server.enter(1, "desk", "bob", 1), Behind("firm"))
        server.enter(1, "desk", "ann", 21, until=5)
        self.check_same(server.enter(1, "desk", "bob", 1), Behind("ann"))
        self.check_same(server.enter(1, "desk", "firm", 1), Behind("ann"))
        self.check_same(len(server.waiting_in("desk")), 2)

    def test_others_leave_first(self):
        server = lent()
        server.enter(1, "desk", "firm", 21, until=5)
        server.enter(1, "attic", "ann", 21, until=5)
        self.check_same(server.enter(5, "desk", "bob", 1), Behind("firm"))
        self.check_same(server.enter(6, "desk", "bob", 1).word, "yes")
        self.check_same([server.waiting_in("desk"), server.waiting_in("attic")], [[], []])

    def test_elsewhere(self):
        server = lent()
        server.enter(1, "attic", "firm", 21, until=5)
        for until in (None, 20):
            self.stays(server, Elsewhere, ["attic"], server.enter, 5, "desk", "firm", 1, until=until)
        self.check_same(server.enter(5, "attic", "firm", 1, until=9), Waits("attic"))
        self.check_same(server.enter(5, "desk", "ann", 99, until=9), Waits("desk"))
        self.stays(server, Elsewhere, ["attic"], server.enter, 9, "desk", "firm", 1)
        self.stays(server, Elsewhere, ["desk"], server.enter, 9, "attic", "ann", 1)
        self.check_same(server.enter(10, "desk", "firm", 1).word, "yes")

    def test_forty_wait(self):
        server = lent()
        for at in range(40):
            self.check_same(server.enter(1, "desk", "firm", 21, until=5 + at), Waits("desk"))
        self.stays(server, TooMany, ["waiting", 41], server.enter, 5, "desk", "ann", 1, until=9)
        self.check_same(server.copy().enter(5, "desk", "ann", 1), Behind("firm"))
        self.check_same(server.enter(5, "attic", "ann", 1).word, "yes")
        self.check_same(server.enter(6, "desk", "ann", 1, until=9), Waits("desk"))
        self.check_same(len(server.waiting_in("desk")), 40)
        self.stays(server, TooMany, ["waiting", 41], server.enter, 6, "desk", "ann", 1, until=9)


class Ticking(ServerCase):
    def test_it_serves_room_by_room(self):
        server = lent()
        server.use(0, "p", "b", 18)
        for room, customer in (("full", "firm"), ("desk", "ann"), ("attic", "eve")):
            server.enter(1, room, customer, 3, until=50)
        self.check_same(server.tick(1), [])
        server.enter(1, "desk", "cid", 7, until=50)
        server.enter(1, "desk", "ann", 1, until=50)
        served = server.tick(14)
        self.check_same(served, [
            ("attic", "eve", Yes((("p", "b", 4, 3), ("q", "c", 0, 3)))),
            ("desk", "ann", Yes((("p", "b", 4, 3), ("q", "c", 0, 3)))),
            ("desk", "cid", Yes(())),
            ("desk", "ann", Yes((("p", "b", 4, 1), ("q", "c", 0, 1)))),
            ("full", "firm", paid(3)),
        ])
        self.check_same([server.mark_in("desk", "ann"), server.mark_in("desk", "cid")], [16, 21])
        self.check_same(server.tick(14), [])

    def test_a_head_that_cannot_be_paid_stops_its_own_room(self):
        server = lent()
        server.enter(1, "attic", "firm", 21, until=50)
        server.enter(1, "attic", "cid", 1, until=50)
        server.enter(1, "desk", "eve", 99, until=4)
        server.enter(1, "desk", "bob", 2, until=50)
        # In the attic cid is the head, then the firm stops it; in the desk bob is ahead of eve.
        self.check_same(server.copy().tick(2), [("attic", "cid", Yes(())), ("desk", "bob", Yes((("q", "c", 0, 2),)))])
        server.enter(1, "attic", "ann", 1, until=50)
        self.check_same([row[:2] for row in server.tick(2)], [("attic", "ann"), ("attic", "cid"), ("desk", "bob")])
        server.enter(2, "attic", "ann", 1, until=50)
        self.check_same(server.tick(2), [])
        self.check_same([len(server.waiting_in("attic")), len(server.waiting_in("desk"))], [2, 1])

    def test_the_until_is_the_last_reading(self):
        for reading, count in ((13, 1), (14, 1), (15, 0)):
            server = lent()
            server.use(0, "p", "b", 20)
            server.enter(1, "desk", "firm", 1, until=14)
            server.tick(reading)
            served = reading == 14
            self.check_same([len(server.waiting_in("desk")), server.mark_in("desk", "firm")],
                            [0 if served else count, 6 if served else 0])

    def test_heads_take_chips_from_rooms_behind(self):
        server = lent()
        server.use(0, "p", "b", 20)
        server.enter(1, "attic", "firm", 15, until=50)
        server.enter(1, "desk", "ann", 6, until=50)
        self.check_same([row[:2] for row in server.tick(14)], [("attic", "firm")])
        self.check_same(server.head_of("desk"), ("ann", 6, 50))

    def test_other_operations_serve_nobody(self):
        server = lent()
        server.use(0, "p", "b", 20)
        server.enter(1, "desk", "firm", 1, until=50)
        for deed in (("request", 14, "firm", 1), ("enter", 14, "attic", "ann", 1, None), ("use", 14, "q", "c", 1, None),
                     ("lend", 14, "p", "b", "m", 1, None, None), ("receive", 14, ("extend", "p", "b", 4, 95))):
            server.do(deed)
            self.check_same(server.waiting_in("desk"), [("firm", 1, 50)])

    def test_only_ticks_and_entries_let_requests_leave(self):
        server = lent()
        server.enter(1, "desk", "firm", 99, until=5)
        for deed in (("request", 9, "firm", 1), ("use", 9, "q", "c", 1, None)):
            server.do(deed)
            self.check_same(len(server.waiting_in("desk")), 1)
        self.check_same(server.when(9, "desk"), None)
        server.tick(9)
        self.check_same(server.waiting_in("desk"), [])


class When(ServerCase):
    def check_when(self, server, reading, room, wanted):
        ahead = shown(server) + [server.book("p")]
        self.check_same(server.when(reading, room), wanted)
        self.check_same(shown(server) + [server.book("p")], ahead)
        if wanted is not None:
            head = server.head_of(room)
            self.check_same([row[1] for row in server.copy().tick(wanted) if row[0] == room][:1], [head[0]])
            for earlier in range(reading, wanted):
                other = server.copy()
                self.check_same([row for row in other.tick(earlier) if row[0] == room], [])

    def test_nobody_waits(self):
        self.check_when(lent(), 1, "desk", None)

    def test_the_asked_reading_and_a_later_one(self):
        server = lent()
        server.use(0, "p", "b", 20)
        server.enter(1, "desk", "firm", 1, until=50)
        # The chips rest until 12, which is low at 14.
        self.check_when(server, 1, "desk", 14)
        self.check_when(server, 14, "desk", 14)
        self.check_when(server, 20, "desk", 20)
        self.check_when(server, 50, "desk", 50)
        self.check_when(server, 51, "desk", None)

    def test_the_least_of_many_readings(self):
        for n, wanted in ((1, 14), (2, 15), (5, 18), (12, 25), (13, 26), (20, 26)):
            server = lent()
            for reading in range(20):
                server.use(min(reading, 12), "p", "b", 1)
            server.enter(12, "desk", "firm", n, until=80)
            self.check_when(server, 12, "desk", wanted)
        server = lent()
        server.receive(0, ("lend", "p", "b", 5, 5, 900))
        server.use(113, "p", "b", 1)
        server.use(114, "p", "b", 1)
        server.enter(114, "desk", "firm", 4, until=800)
        self.check_when(server, 114, "desk", 127)

    def test_a_reading_that_is_not_behind_the_last_one(self):
        server = lent()
        server.use(0, "p", "b", 20)
        server.enter(1, "desk", "firm", 1, until=50)
        server.tick(3)
        self.check_when(server, -1, "desk", 14)

    def test_never(self):
        server = lent()
        server.enter(1, "desk", "dan", 1, until=90)
        self.check_when(server, 1, "desk", None)
        server.enter(1, "attic", "firm", 31, until=90)
        self.check_when(server, 1, "attic", None)

    def test_over_two_rules(self):
        server = lent()
        server.use(0, "p", "b", 20)
        server.use(3, "q", "c", 8)
        server.enter(3, "desk", "eve", 2, until=50)
        self.check_when(server, 3, "desk", 14)
        server.tick(12)
        server.use(12, "q", "c", 7)
        self.check_when(server, 12, "desk", 21)

    def test_the_head_leaves_first(self):
        server = lent()
        server.use(0, "p", "b", 20)
        server.enter(1, "desk", "firm", 1, until=13)
        server.enter(1, "desk", "firm", 2, until=50)
        self.check_when(server, 1, "desk", None)
        self.check_same(server.copy().tick(14), [("desk", "firm", paid(2))])

    def test_another_head_comes_first(self):
        """The head of the attic takes the chips that come first, until it leaves."""
        server = lent()
        server.use(0, "p", "b", 15)
        server.use(5, "p", "b", 5)
        server.enter(5, "attic", "firm", 15, until=50)
        server.enter(5, "desk", "ann", 4, until=50)
        self.check_when(server, 5, "attic", 14)
        self.check_when(server, 5, "desk", 19)
        server.tick(14)
        self.check_when(server, 14, "desk", 19)

    def test_the_head_ahead_leaves(self):
        server = lent()
        server.use(0, "p", "b", 20)
        server.enter(1, "attic", "firm", 20, until=20)
        server.enter(1, "desk", "ann", 4, until=50)
        self.check_when(server, 1, "desk", 21)
        server = lent()
        server.enter(1, "attic", "firm", 99, until=20)
        server.enter(1, "desk", "eve", 99, until=50)
        self.check_when(server, 1, "desk", None)

    def test_chips_that_come_home(self):
        server = lent()
        server.lend(0, "p", "b", "x", 18, until=30)
        server.enter(1, "desk", "firm", 3, until=90)
        # rest(29) is 39, which is low at 41.
        self.check_when(server, 1, "desk", 41)
        server.receive(2, ("back", "p", "x", 1, 1, ((0, 1), (7, 4))))
        self.check_when(server, 2, "desk", 2)

    def test_a_drawer_that_falls_home(self):
        server = lent()
        server.lend(0, "p", "b", "d", 18, until=30)
        server.enter(1, "desk", "firm", 3, until=90)
        # At 28 high is 30.
        self.check_when(server, 1, "desk", 28)

    def test_a_lot_that_ends(self):
        server = lent()
        server.use(0, "p", "b", 20)
        server.receive(0, ("lend", "p", "b", 5, 3, 30))
        server.use(20, "p", "b", 3, lot=5)
        server.use(20, "p", "b", 19, lot=4)
        server.enter(20, "attic", "firm", 2, until=40)
        server.enter(20, "desk", "ann", 3, until=60)
        self.check_when(server, 20, "attic", 34)
        self.check_when(server, 20, "desk", 34)

    def test_the_errors_in_their_order(self):
        server = lent()
        server.tick(20)
        self.in_order(server, server.when, {"reading": 20, "room": "desk"}, [
            (BadReading, ["sb", 15], {"reading": 15}), (UnknownName, ["hall"], {"room": "hall"})])


class Books(ServerCase):
    def check_book(self, server, rule):
        """The book leads a new purse to where the purse is."""
        purse = Purse(HOUSE.tree_of(rule), server.name, HOUSE.error_of(server.name))
        for deed in server.book(rule):
            perform(purse, deed)
        self.check_same(facts(purse), facts(server.purse(rule)))

    def test_deeds_of_every_kind(self):
        server = lent()
        deeds = [
            ("lend", 1, "p", "b", "d", 5, 60, None), ("lend", 1, "p", "d", "n", 2, None, 1),
            ("lend", 1, "p", "b", "x", 3, 40, 4), ("prolong", 2, "p", 3, 50), ("use", 2, "p", "d", 1, None),
            ("use", 2, "p", "b", 1, 4), ("give", 3, "p", "d", 1, [(0, 1)]), ("give", 3, "p", "b", 4, ((0, 1),)),
            ("recall", 4, "p", "n", 2), ("receive", 4, ("extend", "p", "b", 4, 95)),
            ("receive", 4, ("back", "p", "x", 3, 1, ((0, 1),))), ("receive", 4, ("lend", "p", "b", 4, 20, 90)),
        ]
        for deed in deeds:
            server.do(deed)
        self.check_same(server.book(rule="p"), [("receive", 0, ("lend", "p", "b", 4, 20, 90))] + deeds)
        self.check_same(server.book("q"), [("tick", 0)] + [("tick", deed[1]) for deed in deeds])
        for rule in ("p", "q"):
            self.check_book(server, rule)

    def test_ticks_and_the_uses_of_payments(self):
        server = lent()
        server.lend(0, "p", "b", "d", 2)
        self.check_same(server.request(1, "ann", 3).paid, (("p", "d", 1, 2), ("p", "b", 4, 1), ("q", "c", 0, 3)))
        server.request(1, "ann", 99)
        server.enter(2, "desk", "eve", 1)
        server.enter(3, "desk", "bob", 99, until=3)
        server.enter(3, "desk", "firm", 2, until=9)
        server.enter(3, "desk", "bob", 1)
        server.enter(3, "desk", "eve", 2, until=9)
        server.tick(4)
        p = [("receive", 0, ("lend", "p", "b", 4, 20, 90)), ("lend", 0, "p", "b", "d", 2, None, None), ("tick", 1),
             ("use", 1, "p", "d", 2, 1), ("use", 1, "p", "b", 1, 4), ("tick", 1), ("tick", 2), ("use", 2, "p", "b", 1, 4),
             ("tick", 3), ("tick", 3), ("tick", 3), ("tick", 3), ("tick", 4), ("use", 4, "p", "b", 2, 4),
             ("use", 4, "p", "b", 2, 4)]
        q = [("tick", 0), ("tick", 0), ("tick", 1), ("use", 1, "q", "c", 3, 0), ("tick", 1), ("tick", 2),
             ("use", 2, "q", "c", 1, 0), ("tick", 3), ("tick", 3), ("tick", 3), ("tick", 3), ("tick", 4),
             ("use", 4, "q", "c", 2, 0)]
        self.check_same([server.book("p"), server.book("q")], [p, q])
        for rule in ("p", "q"):
            self.check_book(server, rule)

    def test_refused_operations_are_in_no_book(self):
        server = lent()
        ahead = server.book("p")
        for deed in (("use", 1, "p", "b", 99, None), ("tick", -3), ("enter", 1, "desk", "ann", 0, None)):
            self.assertRaises(Exception, server.do, deed)
        self.check_same(server.book("p"), ahead)

    def test_a_server_without_a_place_of_the_rule(self):
        server = lent()
        self.check_same(server.book("r"), [])
        self.stays(server, UnknownName, ["zz"], server.book, "zz")

    def test_a_list_of_parts_is_copied(self):
        server = lent()
        parts = [(0, 1)]
        server.give_back(1, "p", "b", 4, parts)
        parts.append((0, 9))
        server.book("p")[1][5].clear()
        self.check_same(server.book("p")[1], ("give", 1, "p", "b", 4, [(0, 1)]))


class Weights(ServerCase):
    def test_the_example(self):
        tree = Tree(Rule("p", 6, Window(10)), Place("a", "sa"))
        house = House(tree, servers=[("sa", 0)], customers=[("ann", None, 1, ["p"]), ("bob", None, 2, ["p"])],
                      rooms=[("desk", "sa")])
        server = Server(house, "sa")
        server.use(0, "p", "a", 6)
        server.enter(0, "desk", "bob", 3, until=20)
        server.enter(0, "desk", "ann", 3, until=20)
        self.check_same(server.tick(10), [("desk", "ann", Yes((("p", "a", 0, 3),))), ("desk", "bob", Yes((("p", "a", 0, 3),)))])
        self.check_same([server.mark_in("desk", "ann"), server.mark_in("desk", "bob")], [6, 3])


if __name__ == "__main__":
    unittest.main()
