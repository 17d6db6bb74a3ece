"""Servers: their operations one by one, their errors, what is written and synced, and what is asked."""

import copy
import inspect
import unittest

from serving import HOUSE, ServerCase, lent, shown
from support import NOT_NUMBERS, facts

from surelet.answers import No, Waits, Yes
from surelet.cells import changes_text
from surelet.disks import read_areas
from surelet.errors import (
    BadReading, Elsewhere, Fallen, InvalidDeed, InvalidNumber, InvalidParts, NoElder, NotHeld, Over, TooMany,
    UnknownLoan, UnknownLot, UnknownName, WrongLetter,
)
from surelet.houses import House
from surelet.purses import Purse
from surelet.servers import Server

OTHER_NAMES = NOT_NUMBERS + [5, "zz"]


class New(ServerCase):
    def test_purses_disk_and_rooms(self):
        server = Server(HOUSE, "sb")
        for rule in ("p", "q"):
            self.check_same(facts(server.purse(rule)), facts(Purse(HOUSE.tree_of(rule), "sb", 2)))
        table = {"p next": "1", "p past": "0", "q lot c 0": "- - 8 0", "q next": "1", "q past": "0"}
        self.check_same([server.disk().table(), server.name], [table, "sb"])
        self.check_same(server.disk().areas(), [["head 1 1", "piece 1 1 " + changes_text(table)], []])
        self.check_same([server.syncs, server.fallen, server.disk().unsynced()], [0, False, []])
        for room in ("desk", "attic", "full"):
            self.check_same([server.waiting_in(room), server.head_of(room), server.mark_in(room, "ann")], [[], None, 0])
        for word in ("syncs", "fallen"):
            self.assertIsInstance(inspect.getattr_static(Server, word), property)
        self.check_same(shown(Server(rows=16, name="sb", house=HOUSE)), shown(server))

    def test_a_server_without_places(self):
        server = Server(HOUSE, "sd")
        self.check_same([server.disk().table(), server.disk().areas()], [{}, [["head 1 0"], []]])
        self.check_same(server.tick(-3), [])
        self.check_same(server.request(-3, "cid", 5), Yes(()))
        self.check_same(server.request(-3, "ann", 5), No("p", 0, 5))
        self.stays(server, BadReading, ["sd", -4], server.tick, -4)
        # No purse remembers a low.
        server.tick(50)
        server.tick(0)
        self.check_same(server.syncs, 0)

    def test_wrong_names_and_rows(self):
        for name in OTHER_NAMES + ["p", "desk", "ann"]:
            self.check_error(UnknownName, [name], Server, HOUSE, name)
            self.check_error(UnknownName, [name], Server, HOUSE, name, rows=0)
        for rows in NOT_NUMBERS + [0, 65, -1]:
            self.check_error(InvalidNumber, [rows], Server, HOUSE, "sb", rows=rows)

    def test_the_default_of_sixteen_rows(self):
        server = Server(HOUSE, "sb")
        for reading in range(16):
            server.tick(3 + reading)
        self.check_same([server.syncs, len(server.disk().unsynced())], [0, 16])
        server.tick(19)
        self.check_same([server.syncs, len(server.disk().unsynced())], [1, 1])

    def test_the_rows_of_the_disk(self):
        for rows in (1, 3, 16):
            server = Server(HOUSE, "sa", rows=rows)
            for reading in range(rows):
                server.tick(2 + reading)
            self.check_same([server.syncs, len(server.disk().unsynced())], [0, rows])
            server.tick(2 + rows)
            self.check_same([server.syncs, len(server.disk().unsynced())], [1, 1])


class Operations(ServerCase):
    def test_all_purses_are_settled(self):
        for deed in (("tick", 7), ("request", 7, "cid", 1), ("request", 7, "ann", 99),
                     ("enter", 7, "desk", "ann", 99, None),
                     ("use", 7, "p", "b", 1, None), ("lend", 7, "p", "b", "m", 1, None, None),
                     ("receive", 7, ("lend", "p", "b", 4, 20, 90)), ("give", 7, "p", "b", 4, ((0, 1),))):
            server = lent()
            server.do(deed)
            for rule in ("p", "q"):
                self.check_same([server.purse(rule).last_reading, server.purse(rule).past], [7, 5])
                self.check_same(server.disk().table()[f"{rule} past"], "5")

    def test_the_operations_of_the_purses(self):
        server, purse = lent(), Purse(HOUSE.tree_of("p"), "sb", 2)
        self.check_same(purse.receive(0, ("lend", "p", "b", 4, 20, 90)), True)
        for word, args, named in (
            ("use", (1, "b", 2), {}), ("use", (1, "b", 1), {"lot": 4}),
            ("lend", (2, "b", "d", 5), {"until": 40, "lot": 4}), ("lend", (2, "d", "n", 2), {}),
            ("lend", (2, "b", "x", 3), {"until": 30}), ("prolong", (3, 3, 50), {}),
            ("give_back", (3, "d", 1, [(0, 1)]), {}), ("give_back", (4, "b", 4, ((0, 2), (13, 3))), {}),
            ("recall", (5, "n", 2), {}), ("use", (6, "d", 1), {}),
        ):
            got = getattr(server, word)(args[0], "p", *args[1:], **named)
            self.check_same(got, getattr(purse, word)(*args, **named))
            self.check_same(facts(server.purse("p")), facts(purse))
        letter = ("back", "p", "x", 3, 1, ((0, 1),))
        self.check_same([server.receive(7, letter), server.receive(7, letter)], [True, False])
        purse.receive(7, letter)
        self.check_same(facts(server.purse("p")), facts(purse))

    def test_arguments_by_name(self):
        one, other = lent(), lent()
        for server in (one, other):
            server.use(1, "p", "b", 1)
        one.lend(1, "p", "b", "d", 4, until=30, lot=4)
        other.lend(lot=4, until=30, n=4, child="d", place="b", rule="p", reading=1)
        one.lend(1, "p", "b", "x", 2, until=40)
        other.lend(reading=1, rule="p", place="b", child="x", n=2, until=40)
        one.use(2, "p", "d", 1, lot=1)
        other.use(lot=1, n=1, place="d", rule="p", reading=2)
        one.prolong(2, "p", 2, 50)
        other.prolong(until=50, number=2, rule="p", reading=2)
        one.give_back(2, "p", "d", 1, [(0, 1)])
        other.give_back(parts=[(0, 1)], lot=1, place="d", rule="p", reading=2)
        one.recall(2, "p", "d", 1)
        other.recall(lot=1, place="d", rule="p", reading=2)
        one.receive(3, ("extend", "p", "b", 4, 95))
        other.receive(letter=("extend", "p", "b", 4, 95), reading=3)
        one.enter(3, "desk", "ann", 99, until=5)
        other.enter(until=5, cost=99, customer="ann", room="desk", reading=3)
        one.request(4, "bob", 2)
        other.request(cost=2, customer="bob", reading=4)
        one.tick(5)
        other.tick(reading=5)
        self.check_same(other.when(reading=5, room="desk"), one.when(5, "desk"))
        self.check_same(shown(one), shown(other))
        one.crash(("tick", 6), ["kept"])
        other.crash(cut=["kept"], deed=("tick", 6))
        one.wake(6)
        other.wake(reading=6)
        one.fall(["torn"])
        other.fall(cut=["torn"])
        self.check_same(shown(one), shown(other))

    def test_do(self):
        for deed, call in (
            (("tick", 3), lambda server: server.tick(3)),
            (("request", 3, "ann", 2), lambda server: server.request(3, "ann", 2)),
            (("enter", 3, "desk", "ann", 2, None), lambda server: server.enter(3, "desk", "ann", 2)),
            (("enter", 3, "desk", "ann", 99, 7), lambda server: server.enter(3, "desk", "ann", 99, until=7)),
            (("use", 3, "q", "c", 2, None), lambda server: server.use(3, "q", "c", 2)),
            (("use", 3, "p", "b", 2, 4), lambda server: server.use(3, "p", "b", 2, lot=4)),
            (("lend", 3, "p", "b", "m", 2, None, None), lambda server: server.lend(3, "p", "b", "m", 2)),
            (("lend", 3, "p", "b", "x", 2, 20, 4), lambda server: server.lend(3, "p", "b", "x", 2, until=20, lot=4)),
            (("prolong", 3, "p", 2, 60), lambda server: server.prolong(3, "p", 2, 60)),
            (("give", 3, "p", "d", 1, [(0, 1)]), lambda server: server.give_back(3, "p", "d", 1, [(0, 1)])),
            (("recall", 3, "p", "d", 1), lambda server: server.recall(3, "p", "d", 1)),
            (("receive", 3, ("extend", "p", "b", 4, 95)), lambda server: server.receive(3, ("extend", "p", "b", 4, 95))),
        ):
            one, other = lent(), lent()
            for server in (one, other):
                server.lend(1, "p", "b", "d", 5)
                server.lend(1, "p", "b", "x", 3, until=30)
            self.check_same(one.do(deed=deed), call(other))
            self.check_same(shown(one), shown(other))
            for rule in ("p", "q"):
                self.check_same(one.book(rule), other.book(rule))

    def test_values_that_are_no_deeds(self):
        server = lent()
        values = NOT_NUMBERS + [5, ("tick",), ["tick", 3], ("tick", True), ("carry", 3, 0), ("settle", 3)]
        for value in values:
            self.stays(server, InvalidDeed, [value], server.do, value)
            self.stays(server, InvalidDeed, [value], server.crash, value, None)
        server.fall()
        for value in values:
            self.stays(server, InvalidDeed, [value], server.do, value)
            self.stays(server, InvalidDeed, [value], server.crash, value, None)


class Errors(ServerCase):
    def ready(self):
        """A server at the reading 10, with lots at d and n, a loan to x, and requests that wait."""
        server = lent()
        server.lend(8, "p", "b", "d", 5)
        server.lend(8, "p", "d", "n", 2)
        server.lend(8, "p", "b", "x", 3, until=30)
        server.enter(9, "attic", "bob", 99, until=50)
        server.enter(9, "full", "eve", 99, until=50)
        for _ in range(39):
            server.enter(9, "full", "eve", 98, until=50)
        server.tick(10)
        return server

    def bad_reading(self, server):
        return BadReading, ["sb", 5], {"reading": 5}

    def test_readings(self):
        server = self.ready()
        for reading in NOT_NUMBERS + [5, -3]:
            for call, args in (
                (server.tick, []), (server.request, [None, None]), (server.enter, [None, None, None]),
                (server.use, [None, None, None]), (server.lend, [None, None, None, None]),
                (server.prolong, [None, None, None]), (server.give_back, [None, None, None, None]),
                (server.recall, [None, None, None]), (server.receive, [None]), (server.when, [None]),
            ):
                self.stays(server, BadReading, ["sb", reading], call, reading, *args)
        self.check_same(server.tick(6), [])

    def test_one_of_several_purses_refuses(self):
        """The purses of a server remember the same low, so the first one speaks for all."""
        server = self.ready()
        self.check_same([server.purse("p").past, server.purse("q").past], [8, 8])
        self.stays(server, BadReading, ["sb", 5], server.use, 5, "q", "c", 1)
        self.check_same(server.use(6, "q", "c", 1), [("c", 0, 1)])

    def test_request(self):
        server = self.ready()
        self.in_order(server, server.request, {"reading": 10, "customer": "ann", "cost": 1}, [
            self.bad_reading(server), (UnknownName, ["zz"], {"customer": "zz"}), (InvalidNumber, [0], {"cost": 0})])
        for customer in OTHER_NAMES:
            self.stays(server, UnknownName, [customer], server.request, 10, customer, None)
        for cost in NOT_NUMBERS + [0, -1, 1001]:
            self.stays(server, InvalidNumber, [cost], server.request, 10, "ann", cost)
        self.check_same(server.request(10, "ann", 1000), No("p", 17, 1000))

    def test_enter(self):
        server = self.ready()
        self.in_order(server, server.enter, {"reading": 10, "room": "desk", "customer": "ann", "cost": 1, "until": 20}, [
            self.bad_reading(server), (UnknownName, ["hall"], {"room": "hall"}), (UnknownName, ["zz"], {"customer": "zz"}),
            (InvalidNumber, [0], {"cost": 0}), (Over, [9], {"until": 9}), (Elsewhere, ["attic"], {"customer": "bob"}),
            (TooMany, ["waiting", 41], {"room": "full"})])
        self.stays(server, Elsewhere, ["attic"], server.enter, 10, "full", "bob", 1, until=20)
        for room in OTHER_NAMES + ["hall", "sb"]:
            self.stays(server, UnknownName, [room], server.enter, 10, room, None, None, until="x")
        for customer in OTHER_NAMES:
            self.stays(server, UnknownName, [customer], server.enter, 10, "desk", customer, None, until="x")
        for cost in NOT_NUMBERS + [0, -1, 1001]:
            self.stays(server, InvalidNumber, [cost], server.enter, 10, "desk", "ann", cost, until="x")
        for until in [value for value in NOT_NUMBERS if value is not None] + [9, 0, -1]:
            self.stays(server, Over, [until], server.enter, 10, "attic", "eve", 1, until=until)
            self.stays(server, Over, [until], server.enter, 10, "full", "ann", 1, until=until)
        with self.assertRaises(TypeError):
            server.enter(10, "desk", "ann", 1, 20)

    def test_use(self):
        server = self.ready()
        self.in_order(server, server.use, {"reading": 10, "rule": "p", "place": "b", "n": 1, "lot": 4}, [
            self.bad_reading(server), (UnknownName, ["r"], {"rule": "r"}), (UnknownName, ["x"], {"place": "x"}),
            (UnknownLot, ["b", 7], {"lot": 7}), (NotHeld, ["b", 0], {"n": 0})])
        for rule in OTHER_NAMES + ["r"]:
            self.stays(server, UnknownName, [rule], server.use, 10, rule, None, None)
        for n in NOT_NUMBERS + [0, -1, 99]:
            self.stays(server, NotHeld, ["b", n], server.use, 10, "p", "b", n)

    def test_lend(self):
        server = self.ready()
        good = {"reading": 10, "rule": "p", "place": "b", "child": "x", "n": 1, "until": 20, "lot": 4}
        self.in_order(server, server.lend, good, [
            self.bad_reading(server), (UnknownName, ["r"], {"rule": "r"}), (UnknownName, ["x"], {"place": "x"}),
            (UnknownName, ["n"], {"child": "n"}), (Over, [8], {"until": 8}), (UnknownLot, ["b", 7], {"lot": 7}),
            (NotHeld, ["b", 0], {"n": 0}), (Over, [91], {"until": 91})])
        for rule in OTHER_NAMES + ["r"]:
            self.stays(server, UnknownName, [rule], server.lend, 10, rule, None, None, None)

    def test_prolong(self):
        server = self.ready()
        self.in_order(server, server.prolong, {"reading": 10, "rule": "p", "number": 3, "until": 40}, [
            self.bad_reading(server), (UnknownName, ["r"], {"rule": "r"}), (UnknownLoan, [1], {"number": 1}),
            (Over, [30], {"until": 30})])
        for rule in OTHER_NAMES + ["r"]:
            self.stays(server, UnknownName, [rule], server.prolong, 10, rule, None, None)

    def test_give_back(self):
        server = self.ready()
        good = {"reading": 10, "rule": "p", "place": "d", "lot": 1, "parts": [(0, 1)]}
        self.in_order(server, server.give_back, good, [
            self.bad_reading(server), (UnknownName, ["r"], {"rule": "r"}), (UnknownName, ["x"], {"place": "x"}),
            (UnknownLot, ["d", 7], {"lot": 7}), (InvalidParts, [[]], {"parts": []})])
        self.stays(server, NotHeld, ["d", 9], server.give_back, 10, "p", "d", 1, [(0, 9)])
        self.stays(server, NoElder, ["c"], server.give_back, 10, "q", "c", 0, None)
        for rule in OTHER_NAMES + ["r"]:
            self.stays(server, UnknownName, [rule], server.give_back, 10, rule, None, None, None)

    def test_recall(self):
        server = self.ready()
        self.in_order(server, server.recall, {"reading": 10, "rule": "p", "place": "d", "lot": 1}, [
            self.bad_reading(server), (UnknownName, ["r"], {"rule": "r"}), (UnknownName, ["x"], {"place": "x"}),
            (UnknownLot, ["d", 7], {"lot": 7})])
        self.stays(server, NoElder, ["b"], server.recall, 10, "p", "b", 4)
        for rule in OTHER_NAMES + ["r"]:
            self.stays(server, UnknownName, [rule], server.recall, 10, rule, None, None)

    def test_receive(self):
        server = self.ready()
        for letter in NOT_NUMBERS + [
            5, ("lend",), ("lend", "r", "a", 1, 1, 20), ("lend", "zz", "b", 1, 1, 20), ("lend", [], "b", 1, 1, 20),
            ("lend", "p", "d", 1, 1, 20), ("lend", "p", "b", 0, 1, 20), ["lend", "p", "b", 1, 1, 20],
            ("back", "p", "x", 3, 1, [(0, 1)]), ("back", "p", "x", 3, 1, ()), ("back", "q", "e", 1, 1, ((0, 1),)),
        ]:
            self.stays(server, WrongLetter, [letter], server.receive, 10, letter)
            self.stays(server, BadReading, ["sb", 5], server.receive, 5, letter)

    def test_what_is_asked(self):
        server = self.ready()
        for value in OTHER_NAMES + ["hall", "sb"]:
            for call in (server.waiting_in, server.head_of):
                self.stays(server, UnknownName, [value], call, value)
            self.stays(server, UnknownName, [value], server.mark_in, value, "zz")
            self.stays(server, UnknownName, [value], server.when, 10, value)
        for value in OTHER_NAMES + ["sb"]:
            self.stays(server, UnknownName, [value], server.mark_in, "desk", value)
        for value in OTHER_NAMES + ["r"]:
            self.stays(server, UnknownName, [value], server.purse, value)
        for value in OTHER_NAMES:
            self.stays(server, UnknownName, [value], server.book, value)
        self.check_same(server.waiting_in(room="attic"), [("bob", 99, 50)])
        self.check_same(server.head_of(room="attic"), ("bob", 99, 50))
        self.check_same([server.mark_in(customer="bob", room="attic"), len(server.waiting_in("full"))], [0, 40])
        self.check_same(server.purse(rule="q").ready_chips, 8)

    def test_refused_operations_settle_nothing(self):
        server = lent()
        server.lend(0, "p", "b", "d", 5, until=20)
        server.enter(0, "desk", "ann", 99, until=15)
        ahead = shown(server)
        for call, args in ((server.use, (30, "p", "d", 1)), (server.enter, (30, "desk", "ann", 0)),
                           (server.request, (30, "ann", 0)), (server.prolong, (30, "p", 9, 90))):
            self.assertRaises(Exception, call, *args)
            self.check_same(shown(server), ahead)
            self.check_same(len(server.book("q")), 3)


class Copies(ServerCase):
    def test_a_copy_shares_nothing(self):
        server = lent()
        server.lend(0, "p", "b", "m", 3)
        server.enter(0, "desk", "ann", 99, until=15)
        ahead = shown(server) + [server.book("p"), server.book("q")]
        other = server.copy()
        self.check_same(shown(other) + [other.book("p"), other.book("q")], ahead)
        for deed in (("use", 1, "p", "m", 1, None), ("request", 2, "bob", 2), ("enter", 3, "desk", "ann", 1, 90),
                     ("tick", 20), ("receive", 20, ("lend", "p", "b", 5, 1, 95))):
            other.do(deed)
        self.check_same(shown(server) + [server.book("p"), server.book("q")], ahead)
        other.fall(["kept"])
        fallen = other.copy()
        fallen.wake(20)
        self.check_same([other.fallen, fallen.fallen], [True, False])
        self.check_error(Fallen, ["sb"], fallen.book, "p")
        self.check_same(shown(server) + [server.book("p"), server.book("q")], ahead)
        again = server.copy()
        for one in (server, again):
            one.tick(30)
        self.check_same(shown(server), shown(again))

    def test_told_objects_are_copies(self):
        server = lent()
        server.enter(0, "desk", "ann", 99, until=15)
        ahead = copy.deepcopy(shown(server))
        server.purse("p").use(0, "b", 5)
        server.disk().fall()
        server.waiting_in("desk").clear()
        server.book("p").clear()
        self.check_same(shown(server), ahead)
        self.check_same(len(server.book("p")), 2)

    def test_a_house_may_have_no_rules(self):
        server = Server(House(servers=[("sa", 0)], customers=[("ann", None, 1, [])], rooms=[("desk", "sa")]), "sa")
        self.check_same(server.enter(0, "desk", "ann", 5, until=9), Yes(()))
        self.check_same([server.mark_in("desk", "ann"), server.waiting_in("desk")], [5, []])


class Syncs(ServerCase):
    def made(self):
        """A server with chips at all its places, which has synced once for each letter and each lend to memory."""
        server = lent()
        for place, child in (("b", "d"), ("d", "n"), ("b", "m")):
            server.lend(0, "p", place, child, 4 if child == "d" else 2)
        server.lend(0, "p", "b", "x", 3, until=40)
        server.lend(0, "q", "c", "e", 3)
        return server

    def check_syncs(self, deed, count):
        server = self.made()
        ahead = server.syncs
        answer = server.do(deed)
        self.check_same(server.syncs - ahead, count)
        self.assertEqual(server.disk().unsynced() == [], count > 0, deed)
        return answer

    def test_each_operation(self):
        for deed, count in (
            (("tick", 3), 0), (("use", 3, "p", "b", 1, None), 1), (("use", 3, "p", "d", 1, None), 1),
            (("use", 3, "p", "m", 1, None), 0), (("use", 3, "p", "n", 2, None), 0), (("use", 3, "q", "e", 1, None), 1),
            (("lend", 3, "p", "b", "x", 1, 20, None), 1), (("lend", 3, "p", "b", "m", 1, None, None), 1),
            (("lend", 3, "p", "d", "n", 1, None, None), 1), (("lend", 3, "p", "b", "d", 1, None, None), 0),
            (("lend", 3, "q", "c", "e", 1, 90, None), 0), (("prolong", 3, "p", 4, 50), 1),
            (("give", 3, "p", "b", 4, ((0, 1),)), 1), (("give", 3, "p", "d", 1, ((0, 1),)), 0),
            (("give", 3, "p", "m", 3, ((0, 1),)), 0), (("give", 3, "q", "e", 1, ((0, 1),)), 0),
            (("recall", 3, "p", "d", 1), 0), (("recall", 3, "p", "m", 3), 0),
            (("receive", 3, ("lend", "p", "b", 5, 1, 60)), 0), (("receive", 3, ("extend", "p", "b", 4, 95)), 0),
            (("receive", 3, ("back", "p", "x", 4, 1, ((0, 1),))), 0),
            (("request", 3, "ann", 100), 0), (("request", 3, "cid", 5), 0), (("request", 3, "bob", 1), 1),
            (("request", 3, "firm", 2), 0), (("request", 3, "firm", 3), 1),
            (("enter", 3, "desk", "firm", 2, None), 0), (("enter", 3, "desk", "firm", 3, 9), 1),
            (("enter", 3, "desk", "firm", 99, None), 0), (("enter", 3, "desk", "firm", 99, 9), 0),
        ):
            self.check_syncs(deed, count)

    def test_a_tick_that_pays(self):
        for cost, count in ((2, 0), (3, 1)):
            server = self.made()
            server.enter(3, "desk", "firm", 99, until=9)
            server.enter(3, "desk", "firm", cost, until=15)
            server.tick(9)
            ahead = server.syncs
            self.check_same([row[:2] for row in server.tick(10)], [("desk", "firm")])
            self.check_same(server.syncs - ahead, count)

    def test_one_record_for_an_operation(self):
        server = lent()
        server.request(3, "eve", 2)
        disk = server.disk()
        self.check_same(disk.table(), {**server.purse("p").table(), **server.purse("q").table()})
        rows = [cell for cell in disk.areas()[0] if cell.startswith("row ")]
        self.check_same([row.split(" ")[:4] for row in rows], [["row", "1", "1", "0"], ["row", "1", "2", "1"],
                                                               ["row", "1", "3", "0"]])
        self.check_same("".join(row.split(" ", 4)[4] for row in rows[1:]), "p lot b 4=90 - 18 0 rest 15 2;p past=1;"
                        "q lot c 0=- - 6 0 rest 10 2;q past=1;")
        self.check_same([server.syncs, disk.unsynced()], [1, []])

    def test_nothing_is_written_if_nothing_is_different(self):
        server = lent()
        ahead = server.disk().unsynced()
        for deed in (("tick", 0), ("tick", 2), ("tick", -1), ("request", 1, "cid", 1), ("use", 1, "p", "m", 1, None)):
            if deed[0] == "use":
                server.lend(1, "p", "b", "m", 3)
                ahead = server.disk().unsynced()
            server.do(deed)
            self.check_same(server.disk().unsynced(), ahead)

    def test_the_record_of_a_lot_that_goes(self):
        server = lent()
        server.lend(0, "p", "b", "d", 5, until=20)
        server.tick(18)
        self.check_same(server.disk().unsynced()[-1][2].split(" ", 4)[4],
                        "p lot b 4=90 - 20 0;p lot d 1!;p past=16;q past=16;")
        self.check_same(read_areas(server.disk().areas())[2], Server(HOUSE, "sb").disk().table())

    def test_a_full_area(self):
        server = lent(rows=2)
        server.tick(3)
        self.check_same(server.syncs, 0)
        server.tick(4)
        self.check_same([server.syncs, len(server.disk().unsynced())], [1, 1])
        server.tick(5)
        self.check_same(server.syncs, 1)
        # The check and the payment are synced one after the other.
        server.request(6, "bob", 1)
        self.check_same([server.syncs, server.disk().unsynced()], [3, []])


class Requests(ServerCase):
    def test_yes(self):
        server = lent()
        answer = server.request(1, "eve", 3)
        self.check_same(answer, Yes((("p", "b", 4, 3), ("q", "c", 0, 3))))
        self.check_same([server.purse("p").ready_chips, server.purse("q").ready_chips], [17, 5])
        self.check_same(server.request(1, "cid", 1000), Yes(()))

    def test_all_or_nothing(self):
        server = lent()
        self.check_same(server.request(1, "eve", 9), No("q", 8, 9))
        self.check_same([server.purse("p").ready_chips, server.purse("q").ready_chips], [20, 8])
        self.check_same([server.purse("p").last_reading, server.purse("q").last_reading], [1, 1])
        self.check_same(server.request(1, "eve", 8).word, "yes")
        self.check_same(server.request(1, "eve", 1), No("q", 0, 1))

    def test_the_first_rule_that_lacks(self):
        server = lent()
        self.check_same(server.request(1, "eve", 21), No("p", 20, 21))
        server.use(1, "p", "b", 20)
        self.check_same(server.request(1, "eve", 1), No("p", 0, 1))
        server.use(1, "q", "c", 8)
        self.check_same([server.request(1, "eve", 1), server.request(1, "bob", 1)], [No("p", 0, 1), No("q", 0, 1)])

    def test_a_rule_without_a_place_here(self):
        server = lent()
        self.check_same(server.request(1, "dan", 1), No("r", 0, 1))
        self.check_same(Server(HOUSE, "sa").request(1, "eve", 1), No("q", 0, 1))
        self.check_same(Server(HOUSE, "sa").request(1, "firm", 2), Yes((("p", "a", 0, 2),)))

    def test_the_path_pays_in_its_order(self):
        server = lent()
        server.lend(0, "p", "b", "d", 4)
        server.lend(0, "p", "d", "n", 2)
        server.lend(0, "p", "b", "m", 1)
        self.check_same(server.copy().request(1, "ann", 6), Yes((
            ("p", "n", 2, 2), ("p", "d", 1, 2), ("p", "m", 3, 1), ("p", "b", 4, 1), ("q", "c", 0, 6))))
        self.check_same(server.copy().request(1, "firm", 6), Yes((("p", "m", 3, 1), ("p", "b", 4, 5))))
        self.check_same(server.request(1, "firm", 17), No("p", 16, 17))
        self.check_same(server.request(1, "firm", 16), Yes((("p", "m", 3, 1), ("p", "b", 4, 15))))
        self.check_same(server.request(1, "ann", 5), No("p", 4, 5))
        self.check_same(server.request(1, "ann", 4).word, "yes")

    def test_it_does_not_wait_for_rooms(self):
        server = lent()
        server.enter(1, "desk", "ann", 99, until=50)
        self.check_same(server.request(1, "eve", 8).word, "yes")
        self.check_same(server.waiting_in("desk"), [("ann", 99, 50)])

    def test_waits_and_others_are_answers(self):
        server = lent()
        self.check_same(server.enter(1, "desk", "ann", 99, until=50), Waits("desk"))


if __name__ == "__main__":
    unittest.main()
