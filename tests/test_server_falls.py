"""Servers: falling, waking and crashes."""

import itertools
import unittest

from serving import HOUSE, ServerCase, lent, shown
from support import NOT_NUMBERS, facts

from surelet.answers import Yes
from surelet.disks import read_areas
from surelet.errors import (
    BadReading, Fallen, InvalidCut, InvalidDeed, InvalidNumber, NotFallen, NotHeld, Over, UnknownName, WrongLetter,
)
from surelet.purses import Purse
from surelet.servers import Server

WORDS = ("kept", "lost", "torn")


def busy():
    """A server with a lot in memory, requests that wait, and two unsynced records of one row each."""
    server = lent()
    server.lend(0, "p", "b", "m", 5, until=40)
    server.use(1, "p", "m", 2)
    server.enter(1, "desk", "cid", 3)
    server.enter(1, "desk", "eve", 99, until=50)
    server.tick(3)
    server.tick(4)
    return server


class Falling(ServerCase):
    def test_what_is_there_while_it_is_fallen(self):
        server = busy()
        areas, syncs = server.disk().areas(), server.syncs
        self.assertIsNone(server.fall())
        self.check_same([server.fallen, server.syncs, server.name], [True, syncs, "sb"])
        self.check_same([server.disk().areas(), server.disk().table(), server.disk().fallen], [areas, {}, True])
        for call, args in (
            (server.tick, [9]), (server.request, [None, None, None]), (server.enter, [9, None, None, None]),
            (server.use, [9, None, None, None]), (server.lend, [9, None, None, None, None]),
            (server.prolong, [9, None, None, None]), (server.give_back, [9, None, None, None, None]),
            (server.recall, [9, None, None, None]), (server.receive, [9, None]), (server.do, [("tick", -99)]),
            (server.fall, []), (server.fall, [None]), (server.crash, [("tick", -99)]),
            (server.crash, [("tick", 9), None]), (server.when, [-99, None]), (server.purse, [None]),
            (server.waiting_in, [None]), (server.head_of, [None]), (server.mark_in, [None, None]), (server.book, ["p"]),
            (server.purse, ["p"]), (server.when, [9, "desk"]),
        ):
            self.stays(server, Fallen, ["sb"], call, *args)
        self.stays(server, UnknownName, ["zz"], server.book, "zz")

    def test_wrong_cuts(self):
        server = busy()
        for cut in NOT_NUMBERS:
            if not isinstance(cut, (list, tuple)):
                self.stays(server, InvalidCut, [-1], server.fall, cut)
                self.stays(server, InvalidCut, [-1], server.crash, ("tick", 9), cut)
        for word in NOT_NUMBERS + ["keep", 1]:
            self.stays(server, InvalidCut, [1], server.fall, ["kept", word, None])
            self.stays(server, InvalidCut, [9], server.crash, ("tick", 9), ("torn",) * 9 + (word,))

    def test_all_kept_some_and_none(self):
        for cut, past in (((), "0"), (("kept",), "1"), (("kept", "kept"), "2"), (("lost", "kept"), "0"),
                          (("kept", "torn"), "1"), (("torn", "kept"), "0"), (("kept",) * 5, "2")):
            server = busy()
            self.check_same([text.split(" ")[2:4] for _, _, text in server.disk().unsynced()], [["3", "0"], ["4", "0"]])
            server.fall(cut)
            _, _, table = read_areas(server.disk().areas())
            self.check_same([table["p past"], table["q past"]], [past, past])


class Waking(ServerCase):
    def test_purses_are_restored(self):
        for cut in ((), ("kept",), ("kept", "kept")):
            for reading in (4, 0, 20, 60, 95):
                server = busy()
                server.fall(cut)
                _, _, table = read_areas(server.disk().areas())
                self.assertIsNone(server.wake(reading))
                for rule in ("p", "q"):
                    purse = Purse.restored(HOUSE.tree_of(rule), "sb", 2, table, reading)
                    self.check_same(facts(server.purse(rule)), facts(purse))

    def test_chips_lent_to_memory_rest(self):
        server = busy()
        server.fall(["kept", "kept"])
        server.wake(5)
        self.check_same(server.purse("p").lots("b"), [(4, 90, None, 15, ((17, 5),), (), 0)])
        self.check_same(server.purse("p").lots("m"), [])

    def test_the_changes_are_one_unsynced_record(self):
        server = busy()
        server.fall()
        syncs = server.syncs
        server.wake(5)
        disk = server.disk()
        self.check_same(disk.areas()[1][0], "head 2 2")
        self.check_same([server.syncs - syncs, disk.syncs], [1, server.syncs])
        rows = [text.split(" ", 4) for _, _, text in disk.unsynced()]
        self.check_same([row[:4] for row in rows], [["row", "2", "1", "0"]])
        self.check_same(rows[0][4], "p lot b 4=90 - 15 0 rest 17 5;p past=3;q past=3;")
        self.check_same(disk.table(), {**server.purse("p").table(), **server.purse("q").table()})
        server.fall()
        self.check_same(read_areas(server.disk().areas())[2]["p past"], "0")

    def test_rooms_marks_and_levels(self):
        server = busy()
        self.check_same([server.mark_in("desk", "cid"), len(server.waiting_in("desk"))], [9, 1])
        server.fall(["kept", "kept"])
        server.wake(5)
        for room in ("desk", "attic", "full"):
            self.check_same([server.waiting_in(room), server.head_of(room)], [[], None])
            self.check_same([server.mark_in(room, customer) for customer in HOUSE.customers()], [0] * 6)
        self.check_same(server.enter(5, "desk", "eve", 2).word, "yes")
        self.check_same(server.mark_in("desk", "eve"), 4)

    def test_a_waking_that_is_refused(self):
        server = lent()
        server.use(20, "p", "b", 1)
        self.stays(server, NotFallen, ["sb"], server.wake, 20)
        self.stays(server, NotFallen, ["sb"], server.wake, None)
        server.fall()
        for reading in NOT_NUMBERS + [15, -3, -99]:
            self.stays(server, BadReading, ["sb", reading], server.wake, reading)
            self.assertTrue(server.fallen)
        server.wake(16)
        self.check_same([server.fallen, server.purse("p").past], [False, 18])
        self.stays(server, NotFallen, ["sb"], server.wake, 16)

    def test_a_past_that_was_lost(self):
        server = lent()
        server.tick(20)
        server.fall()
        server.wake(-2)
        self.check_same(server.purse("p").past, 0)

    def test_a_server_without_purses(self):
        server = Server(HOUSE, "sd")
        server.fall()
        self.stays(server, BadReading, ["sd", -4], server.wake, -4)
        server.wake(-3)
        self.check_same([server.fallen, server.disk().areas()], [False, [["head 1 0"], ["head 2 0"]]])

    def test_it_goes_on(self):
        server = busy()
        server.fall()
        server.wake(5)
        self.check_same(server.request(5, "bob", 2), Yes((("q", "c", 0, 2),)))
        self.check_same(server.lend(5, "p", "b", "x", 2, until=40), (2, ("lend", "p", "x", 2, 2, 40)))
        self.check_same(server.disk().unsynced(), [])
        server.fall()
        server.wake(5)
        self.check_same(server.purse("q").lots("c"), [(0, None, None, 6, ((12, 2),), (), 0)])

    def test_the_book_is_lost_for_ever(self):
        server = busy()
        self.check_same(len(server.book("p")), 7)
        server.fall()
        server.wake(5)
        server.tick(6)
        for rule in ("p", "q", "r"):
            self.stays(server, Fallen, ["sb"], server.book, rule)
        self.stays(server, UnknownName, ["zz"], server.book, "zz")


class Crashes(ServerCase):
    def left(self, server, deed, cut):
        """The table that is read behind a crash, and how many syncs it counted."""
        syncs = server.syncs
        self.assertIsNone(server.crash(deed, cut))
        self.assertTrue(server.fallen)
        return read_areas(server.disk().areas())[2], server.syncs - syncs

    def test_a_crash_at_the_sync(self):
        deed = ("use", 5, "p", "b", 1, None)
        before = busy().disk().table()
        done = busy()
        done.do(deed)
        behind = done.disk().table()
        # The records of the ticks have one row each, the one of the payment has two.
        for words in itertools.product(WORDS, repeat=4):
            server = busy()
            table, syncs = self.left(server, deed, words)
            self.check_same(syncs, 0)
            if words == ("kept",) * 4:
                self.check_same(table, behind)
            elif words[:2] == ("kept", "kept"):
                self.check_same(table, before)
            else:
                self.check_same(table["p past"], "1" if words[0] == "kept" else "0")
        table, _ = self.left(busy(), deed, ())
        self.check_same(table["p past"], "0")

    def test_a_crash_without_a_sync(self):
        for deed in (("tick", 7), ("receive", 7, ("lend", "p", "b", 5, 2, 60)), ("use", 7, "p", "m", 1, None),
                     ("request", 7, "eve", 99), ("recall", 7, "p", "m", 1), ("lend", 7, "q", "c", "e", 1, None, None)):
            done = busy()
            done.do(deed)
            count = len(done.disk().unsynced())
            self.assertGreater(count, 2)
            table, syncs = self.left(busy(), deed, ["kept"] * count)
            self.check_same([table, syncs], [done.disk().table(), 0])
            table, syncs = self.left(busy(), deed, ["kept"] * (count - 1))
            self.check_same([table["q past"], syncs], ["2", 0])

    def full(self):
        """A server whose area has two rows, both of them unsynced, and no place for another one."""
        server = Server(HOUSE, "sb", rows=2)
        server.tick(3)
        server.tick(4)
        self.check_same([len(server.disk().unsynced()), server.syncs], [2, 0])
        return server

    def test_a_crash_at_the_sync_of_a_check(self):
        for deed in (("use", 5, "q", "c", 1, None), ("tick", 5)):
            for words, past in (
                (("kept",) * 4, "2"), (("kept", "kept"), "2"), (("kept", "kept", "torn", "torn"), "2"), (("kept",), "1"),
                ((), "0"), (("lost", "lost", "kept", "kept"), "2"), (("lost", "lost", "kept"), "0"),
                (("lost", "lost", "lost", "kept"), "0"), (("torn", "kept", "kept", "torn"), "0"),
                (("kept",) * 9, "2"),
            ):
                server = self.full()
                table, syncs = self.left(server, deed, words)
                self.check_same([table["p past"], table["q past"], syncs], [past, past, 0])
                # The record itself comes behind the first sync, so nothing of it is there.
                self.check_same(table["q lot c 0"], "- - 8 0")
                self.check_same(len([cell for cells in server.disk().areas() for cell in cells
                                     if cell and cell.startswith("row 2")]), 0)

    def test_every_cut_of_a_check(self):
        for words in itertools.product(WORDS, repeat=4):
            server = self.full()
            table, _ = self.left(server, ("use", 5, "q", "c", 1, None), words)
            self.assertIn(table["p past"], ("0", "1", "2"))
            server.wake(5)
            self.check_same(server.purse("q").lots("c"), [(0, None, None, 8, (), (), 0)])

    def test_nothing_is_answered_sent_or_let_by(self):
        server = busy()
        self.assertIsNone(server.crash(("lend", 5, "p", "b", "x", 2, 40, None), ["kept"] * 9))
        server.wake(5)
        self.check_same(server.purse("p").lots("b")[0][5], ((2, "x", 2, 40, None, ()),))
        server = busy()
        self.assertIsNone(server.crash(("request", 5, "bob", 2), ["kept"] * 9))
        server.wake(5)
        self.check_same(server.purse("q").lots("c"), [(0, None, None, 6, ((12, 2),), (), 0)])

    def test_nothing_is_kept_in_memory(self):
        server = busy()
        server.crash(("enter", 5, "attic", "cid", 1, None), ["kept"] * 9)
        server.wake(5)
        self.check_same([server.mark_in("attic", "cid"), server.waiting_in("desk")], [0, []])
        self.stays(server, Fallen, ["sb"], server.book, "p")

    def test_the_errors_in_their_order(self):
        server = busy()
        for deed, error, values in (
            (("carry", 3, 0), InvalidDeed, [("carry", 3, 0)]), (None, InvalidDeed, [None]),
            (("tick", -3), BadReading, ["sb", -3]), (("use", 5, "r", "b", 1, None), UnknownName, ["r"]),
            (("use", 5, "p", "b", 99, None), NotHeld, ["b", 99]), (("request", 5, "bob", 0), InvalidNumber, [0]),
            (("lend", 5, "p", "b", "x", 1, None, None), Over, [None]),
            (("receive", 5, ("lend", "r", "a", 1, 1, 20)), WrongLetter, [("lend", "r", "a", 1, 1, 20)]),
        ):
            for cut in ((), None, ["kept", "no"]):
                self.stays(server, error, values, server.crash, deed, cut)
        self.stays(server, InvalidCut, [-1], server.crash, ("tick", 5), None)
        self.stays(server, InvalidCut, [1], server.crash, ("tick", 5), ["kept", "no"])
        self.check_same(len(server.book("p")), 7)
        server.fall()
        self.stays(server, InvalidDeed, [None], server.crash, None, None)
        self.stays(server, Fallen, ["sb"], server.crash, ("tick", -3), None)

    def test_behind_a_refused_crash_all_goes_on(self):
        server, other = busy(), busy()
        self.check_error(InvalidCut, [-1], server.crash, ("use", 5, "p", "b", 1, None), None)
        for one in (server, other):
            one.use(5, "p", "b", 2)
        self.check_same(shown(server), shown(other))
        self.check_same(server.book("p"), other.book("p"))


if __name__ == "__main__":
    unittest.main()
