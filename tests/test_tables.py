"""Purses: tables, restored purses and standing."""

import unittest

from support import NOT_NUMBERS, PurseCase, facts

from surelet.errors import BadReading, InvalidNumber, UnknownName
from surelet.purses import Purse
from surelet.rests import Window
from surelet.rules import Rule
from surelet.trees import Place, Tree

# The places have the words of the tables as their names.
TREE = Tree(
    Rule("lot", 40, Window(10)), Place("a", "sa"), Place("rest", "sb", "a"), Place("loan", "sb", "rest"),
    Place("m", "sb", "loan", memory=True), Place("past", "sb", "rest", memory=True, customer="ann"),
    Place("x", "sc", "loan"), Place("y", "sc", "x"),
)


def busy():
    """A purse with all kinds of rows."""
    purse = Purse(TREE, "sb", 2)
    purse.receive(0, ("lend", "lot", "rest", 12, 20, 60))
    purse.receive(0, ("lend", "lot", "rest", 3, 10, 50))
    purse.lend(0, "rest", "loan", 15, until=40, lot=12)
    purse.lend(0, "loan", "m", 4)
    purse.lend(0, "loan", "x", 5, until=30)
    purse.lend(0, "loan", "x", 1, until=25)
    purse.lend(0, "rest", "past", 2, lot=3)
    purse.receive(1, ("back", "lot", "x", 3, 2, ((0, 1), (12, 1))))
    purse.receive(1, ("back", "lot", "x", 3, 1, ((13, 1),)))
    purse.use(3, "loan", 1)
    purse.use(4, "m", 3)
    purse.give_back(4, "rest", 3, [(0, 1)])
    purse.give_back(4, "rest", 3, [(0, 2)])
    return purse


class Tables(PurseCase):
    def test_all_kinds_of_rows(self):
        self.check_same(busy().table(), {
            "lot had 12": "60",
            "lot had 3": "50",
            "lot lot loan 1": "60 40 5 0 rest 12 1 rest 13 1 rest 15 1 loan 2 m 4 - 40 - loan 3 x 2 30 - 1,2 "
                              "loan 4 x 1 25 - -",
            "lot lot rest 12": "60 - 5 0 loan 1 loan 15 - 40 -",
            "lot lot rest 3": "50 - 5 2 loan 5 past 2 - - -",
            "lot next": "6",
            "lot past": "2",
        })

    def test_what_is_written_of_the_first_place(self):
        purse = Purse(TREE, "sa", 1)
        self.check_same(purse.table(), {"lot lot a 0": "- - 40 0", "lot next": "1", "lot past": "0"})
        purse.lend(5, "a", "rest", 7, until=30)
        purse.use(6, "a", 33)
        self.check_same(purse.table(), {
            "lot lot a 0": "- - 0 0 rest 17 33 loan 1 rest 7 30 - -", "lot next": "2", "lot past": "5"})

    def test_what_goes_out_of_the_table(self):
        purse = busy()
        purse.settle(61)
        self.check_same(purse.table(), {
            "lot had 12": "60", "lot lot rest 12": "60 - 20 0", "lot next": "6", "lot past": "59"})
        purse.settle(62)
        self.check_same(purse.table(), {"lot next": "6", "lot past": "60"})


class Restored(PurseCase):
    def test_a_purse_without_memory_is_as_it_was(self):
        purse = busy()
        purse.recall(4, "m", 2)
        purse.recall(4, "past", 5)
        for reading in (4, 1, 9, 30, 50, 62):
            other = Purse.restored(TREE, "sb", 2, purse.table(), reading)
            same = purse.copy()
            same.settle(reading)
            self.check_same(facts(other), facts(same))

    def test_chips_in_memory_rest(self):
        purse = Purse.restored(TREE, "sb", 2, busy().table(), 5)
        self.check_same(purse.lots("loan"), [
            (1, 60, 40, 5, ((12, 1), (13, 1), (15, 1), (17, 4)),
             ((3, "x", 2, 30, None, (1, 2)), (4, "x", 1, 25, None, ())), 0)])
        self.check_same(purse.lots("rest"), [
            (3, 50, None, 5, ((17, 2),), (), 2), (12, 60, None, 5, (), ((1, "loan", 15, None, 40, ()),), 0)])
        self.check_same([purse.lots("m"), purse.lots("past"), purse.past, purse.last_reading], [[], [], 3, 5])
        self.check_same([purse.remembered(), len(purse)], [{3: 50, 12: 60}, 27])

    def test_until_when_chips_in_memory_rest(self):
        # The loan to m falls home at 20: its chips were used at 19 at the latest.
        for until, reading, f in ((20, 5, 17), (20, 16, 28), (20, 17, 29), (20, 18, 29), (20, 25, 29), (None, 25, 37)):
            purse = Purse(TREE, "sb", 2)
            purse.receive(0, ("lend", "lot", "rest", 12, 20, 60))
            purse.lend(0, "rest", "loan", 5)
            purse.lend(0, "loan", "m", 5, until=until)
            other = Purse.restored(TREE, "sb", 2, purse.table(), reading)
            self.check_same(other.lots("loan"), [(1, 60, None, 0, ((f, 5),), (), 0)])
        other = Purse.restored(TREE, "sb", 2, purse.table(), 25)
        other.settle(38)
        self.check_same(other.usable("loan"), 0)
        other.settle(39)
        self.check_same(other.usable("loan"), 5)

    def test_chips_in_memory_that_have_rested_by_now(self):
        purse = Purse(TREE, "sb", 2)
        purse.receive(0, ("lend", "lot", "rest", 12, 20, 60))
        purse.lend(0, "rest", "past", 5, until=20)
        for reading, ready in ((30, 15), (31, 20)):
            other = Purse.restored(TREE, "sb", 2, purse.table(), reading)
            self.check_same(other.usable("rest"), ready)

    def test_the_next_number_goes_on(self):
        purse = Purse.restored(TREE, "sb", 2, busy().table(), 5)
        self.check_same(purse.lend(5, "rest", "loan", 1)[0], 6)

    def test_the_count_of_letters_back_goes_on(self):
        purse = Purse.restored(TREE, "sb", 2, busy().table(), 5)
        self.check_same(purse.give_back(5, "rest", 3, [(0, 1)]), ("back", "lot", "rest", 3, 3, ((0, 1),)))
        self.check_same(purse.receive(5, ("back", "lot", "x", 3, 2, ((0, 1),))), False)
        self.check_same(purse.receive(5, ("back", "lot", "x", 3, 3, ((0, 1),))), True)

    def test_it_is_settled(self):
        purse = Purse.restored(TREE, "sb", 2, busy().table(), 51)
        self.check_same([lot[0] for lot in purse.lots("rest")], [3, 12])
        purse = Purse.restored(TREE, "sb", 2, busy().table(), 52)
        self.check_same([lot[0] for lot in purse.lots("rest")], [12])
        self.check_same([purse.lots("loan"), purse.remembered()], [[], {12: 60}])

    def test_keys_of_other_rules_and_any_order(self):
        table = busy().table()
        others = {"lo lot a 0": "- - 7 0", "lots past": "90", "lott had 5": "99", "a lot": "x", "lot0 next": "99"}
        mixed = {**others, **dict(sorted(table.items(), reverse=True)), "z past": "80"}
        ahead = dict(mixed)
        purse = Purse.restored(TREE, "sb", 2, mixed, 5)
        self.check_same(facts(purse), facts(Purse.restored(TREE, "sb", 2, table, 5)))
        self.check_same(mixed, ahead)
        self.check_same(facts(Purse.restored(reading=5, table=table, error=2, server="sb", tree=TREE)), facts(purse))

    def test_the_errors_in_their_order(self):
        table = busy().table()
        table["lot past"] = "20"
        for server in NOT_NUMBERS + ["a", "sd", 5]:
            self.check_error(UnknownName, [server], Purse.restored, TREE, server, None, table, 0)
        for error in NOT_NUMBERS + [-1, 101]:
            self.check_error(InvalidNumber, [error], Purse.restored, TREE, "sb", error, table, 0)
        for reading in NOT_NUMBERS + [17, -3]:
            self.check_error(BadReading, ["sb", reading], Purse.restored, TREE, "sb", 2, table, reading)
        self.check_same(Purse.restored(TREE, "sb", 2, table, 18).past, 20)
        self.check_same(Purse.restored(TREE, "sb", 2, table, 23).past, 21)

    def test_a_restored_purse_is_one_of_this_class(self):
        self.assertIs(type(Purse.restored(TREE, "sb", 2, busy().table(), 5)), Purse)


class Standing(PurseCase):
    def test_the_rows(self):
        self.check_same(busy().standing(), (4, (
            ("rest", 50, None, 5, (), (("past", 2, None, None),)),
            ("rest", 60, None, 5, (), (("loan", 15, None, 40),)),
            ("loan", 60, 40, 5, ((12, 1), (13, 1), (15, 1)),
             (("m", 4, None, 40), ("x", 1, 25, None), ("x", 2, 30, None))),
            ("m", 60, 40, 1, ((16, 3),), ()),
            ("past", 50, None, 2, (), ()),
        )))

    def test_living_lots_alone(self):
        purse = busy()
        for reading, ends in ((47, [50, 60]), (48, [60]), (57, [60]), (58, [])):
            purse.settle(reading)
            told, rows = purse.standing()
            self.check_same([told, [row[1] for row in rows if row[0] == "rest"]], [reading, ends])
            self.check_same(len(purse.lots("rest")), 2 if reading < 52 else 1)

    def test_numbers_of_lots_do_not_count(self):
        one, other = Purse(TREE, "sb", 2), Purse(TREE, "sb", 2)
        for number, n, end in ((1, 5, 50), (2, 5, 40), (3, 4, 50)):
            one.receive(0, ("lend", "lot", "rest", number, n, end))
        for number, n, end in ((7, 4, 50), (6, 5, 50), (5, 5, 40), (9, 9, 2)):
            other.receive(0, ("lend", "lot", "rest", number, n, end))
        other.lend(0, "rest", "loan", 1, lot=7)
        other.recall(0, "loan", 1)
        one.lend(0, "rest", "loan", 2, lot=1)
        other.lend(0, "rest", "loan", 2, lot=6)
        self.check_same(one.standing(), other.standing())
        self.assertNotEqual(one.table(), other.table())
        other.settle(1)
        self.assertNotEqual(one.standing(), other.standing())

    def test_the_order_of_rows(self):
        purse = Purse(TREE, "sb", 0)
        for number, n, end in ((1, 9, 50), (2, 8, 40), (3, 7, 50), (4, 3, 50), (5, 3, 50)):
            purse.receive(0, ("lend", "lot", "rest", number, n, end))
        purse.use(0, "rest", 1, lot=4)
        purse.use(1, "rest", 1, lot=5)
        purse.lend(1, "rest", "loan", 2, lot=1, until=30)
        purse.lend(1, "rest", "loan", 2, lot=3)
        purse.lend(1, "rest", "loan", 2, lot=1, until=20)
        self.check_same(purse.standing(), (1, (
            ("rest", 40, None, 8, (), ()),
            ("rest", 50, None, 2, ((10, 1),), ()),
            ("rest", 50, None, 2, ((11, 1),), ()),
            ("rest", 50, None, 5, (), (("loan", 2, None, None),)),
            ("rest", 50, None, 5, (), (("loan", 2, None, 20), ("loan", 2, None, 30))),
            ("loan", 50, None, 2, (), ()),
            ("loan", 50, 20, 2, (), ()),
            ("loan", 50, 30, 2, (), ()),
        )))

    def test_no_end_counts_as_zero(self):
        tree = Tree(Rule("r", 9, Window(5)), Place("a", "sa"), Place("c", "sa", "a"), Place("b", "sb", "a"))
        purse = Purse(tree, "sa", 0)
        purse.lend(0, "a", "c", 1, until=9)
        purse.lend(0, "a", "b", 1, until=1)
        purse.lend(0, "a", "b", 2, until=4)
        purse.lend(0, "a", "c", 1, until=1)
        purse.lend(0, "a", "c", 1)
        purse.lend(0, "a", "c", 2)
        self.check_same(purse.standing(), (0, (
            ("a", None, None, 1, (), (("b", 1, 1, None), ("b", 2, 4, None), ("c", 1, None, None), ("c", 1, None, 1),
                                      ("c", 1, None, 9), ("c", 2, None, None))),
            ("c", None, None, 1, (), ()),
            ("c", None, None, 2, (), ()),
            ("c", None, 1, 1, (), ()),
            ("c", None, 9, 1, (), ()),
        )))

    def test_an_empty_first_lot_stands_there(self):
        tree = Tree(Rule("r", 2, Window(5)), Place("a", "sa"), Place("b", "sb", "a"))
        purse = Purse(tree, "sa", 0)
        purse.lend(0, "a", "b", 2, until=50)
        self.check_same(purse.standing(), (0, (("a", None, None, 0, (), (("b", 2, 50, None),)),)))


if __name__ == "__main__":
    unittest.main()
